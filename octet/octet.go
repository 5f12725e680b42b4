// Package octet is layer 1: numbers of 32 bits, and numbers in bytes. See shared/doc/01-octet.md.
package octet

// Wrap is a number in 32 bits, with a sign.
func Wrap(n int) int { return int(int32(n)) }

// Add is a sum that wraps. That a + b may itself wrap does no harm: it is then off by a multiple of 2^64, which is one of 2^32, too.
func Add(a, b int) int { return Wrap(a + b) }

// Within says whether a place is in some bytes. It takes n away from the length, since at + n might be too great for an int.
func Within(b []byte, at, n int) bool {
	return at >= 0 && n >= 0 && at <= len(b)-n
}

// U8 is a byte.
func U8(b []byte, at int) (int, bool) { return numberAt(b, at, 1) }

// U16 is the number of two bytes.
func U16(b []byte, at int) (int, bool) { return numberAt(b, at, 2) }

// I16 is that with a sign.
func I16(b []byte, at int) (int, bool) {
	n, ok := U16(b, at)
	return int(int16(n)), ok
}

// U32 is the number of four bytes.
func U32(b []byte, at int) (int, bool) { return numberAt(b, at, 4) }

// Tag is four bytes as a name.
func Tag(b []byte, at int) (string, bool) {
	if !Within(b, at, 4) {
		return "", false
	}
	return string(b[at : at+4]), true
}

// Row is numbers one behind the other.
func Row(b []byte, at, n, size int) ([]int, bool) {
	if !rowWithin(b, at, n, size) {
		return nil, false
	}
	return gather(n, func(i int) int {
		from := at + i*size
		return number(b[from : from+size])
	}), true
}

// Put is a number's low bytes.
func Put(n, size int) []byte {
	if size < 0 || size > 8 {
		return nil
	}
	return gather(size, func(i int) byte { return byte(n >> (8 * (size - 1 - i))) })
}

// Sum is the check sum of bytes.
func Sum(b []byte) int {
	sum := uint32(0)
	for from := 0; from < len(b); from += 4 {
		to := min(from+4, len(b))
		lack := from + 4 - to
		sum += uint32(number(b[from:to])) << (8 * lack)
	}
	return int(sum)
}

// number is what bytes are, all of them, the highest one first.
func number(b []byte) int {
	n := 0
	for _, x := range b {
		n = n<<8 | int(x)
	}
	return n
}

// numberAt is the number of size bytes at a place, if it is within.
func numberAt(b []byte, at, size int) (int, bool) {
	if !Within(b, at, size) {
		return 0, false
	}
	return number(b[at : at+size]), true
}

// rowWithin says whether n numbers of a size stand at a place. It bounds n ahead of n * size, which might wrap to a small number.
func rowWithin(b []byte, at, n, size int) bool {
	switch size {
	case 1, 2, 4:
		return n >= 0 && n <= len(b)/size && Within(b, at, n*size)
	}
	return false
}

// gather is what n readings tell, in order; how one is read is handed in.
func gather[T any](n int, read func(i int) T) []T {
	out := make([]T, n)
	for i := range out {
		out[i] = read(i)
	}
	return out
}
