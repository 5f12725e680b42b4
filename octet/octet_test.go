package octet

import (
	"bytes"
	"math"
	"math/big"
	"slices"
	"testing"
)

// edges are small numbers, and those at which bytes and bits end, with their neighbours.
func edges() []int {
	out := []int{math.MinInt, math.MinInt + 1, math.MaxInt - 1, math.MaxInt}
	for _, bits := range []int{0, 1, 2, 3, 7, 8, 15, 16, 24, 31, 32, 33, 40, 61, 62} {
		for near := -2; near <= 2; near++ {
			out = append(out, 1<<bits+near, -1<<bits+near)
		}
	}
	return out
}

// wrapped reckons without bounds what wraps of a number.
func wrapped(n *big.Int) int {
	whole := big.NewInt(1 << 32)
	m := new(big.Int).Mod(n, whole)
	if m.Cmp(big.NewInt(1<<31)) >= 0 {
		m.Sub(m, whole)
	}
	return int(m.Int64())
}

func large(n int) *big.Int { return big.NewInt(int64(n)) }

// sample has bytes in which each place tells another number, high bits among them.
func sample() []byte { return []byte{0x01, 0x80, 0xff, 0x7f, 0x00, 0xfe, 0x23, 0x81, 0x45} }

// inBounds says without bounds whether count things of a size, from at on, are in some bytes.
func inBounds(length, at, count, size int) bool {
	long := new(big.Int).Mul(large(count), large(size))
	end := new(big.Int).Add(large(at), long)
	return at >= 0 && count >= 0 && end.Cmp(large(length)) <= 0
}

// value is the number of bytes that are within, by multiplying.
func value(b []byte, at, size int) int {
	n := 0
	for i := range size {
		n = n*256 + int(b[at+i])
	}
	return n
}

// P1.1

func TestWrapNamed(t *testing.T) {
	for _, c := range [][2]int{
		{0, 0}, {1, 1}, {-1, -1}, {12345, 12345},
		{1<<31 - 1, 1<<31 - 1}, {1 << 31, -1 << 31}, {1<<31 + 1, -1<<31 + 1},
		{-1 << 31, -1 << 31}, {-1<<31 - 1, 1<<31 - 1},
		{1<<32 - 1, -1}, {1 << 32, 0}, {-1 << 32, 0}, {3<<32 + 7, 7},
		{math.MaxInt, -1}, {math.MinInt, 0},
	} {
		if got := Wrap(c[0]); got != c[1] {
			t.Errorf("Wrap(%d) = %d, want %d", c[0], got, c[1])
		}
	}
}

func TestWrapEdges(t *testing.T) {
	for _, n := range edges() {
		if got, want := Wrap(n), wrapped(large(n)); got != want {
			t.Errorf("Wrap(%d) = %d, want %d", n, got, want)
		}
	}
}

func TestAddNamed(t *testing.T) {
	for _, c := range [][3]int{
		{2, 3, 5}, {-5, 3, -2}, {1<<31 - 1, 1, -1 << 31}, {-1 << 31, -1, 1<<31 - 1},
		{math.MaxInt, 1, 0}, {math.MinInt, -1, -1}, {math.MaxInt, math.MaxInt, -2}, {math.MinInt, math.MinInt, 0},
	} {
		if got := Add(c[0], c[1]); got != c[2] {
			t.Errorf("Add(%d, %d) = %d, want %d", c[0], c[1], got, c[2])
		}
	}
}

func TestAddEdges(t *testing.T) {
	for _, a := range edges() {
		for _, b := range edges() {
			want := wrapped(new(big.Int).Add(large(a), large(b)))
			if got := Add(a, b); got != want {
				t.Errorf("Add(%d, %d) = %d, want %d", a, b, got, want)
			}
		}
	}
}

// P1.2

func TestWithinNamed(t *testing.T) {
	b := sample()
	for _, c := range []struct {
		at, n int
		want  bool
	}{
		{0, 0, true}, {0, 9, true}, {9, 0, true}, {8, 1, true}, {3, 6, true},
		{0, 10, false}, {10, 0, false}, {9, 1, false}, {3, 7, false},
		{-1, 0, false}, {-1, 1, false}, {0, -1, false}, {5, -1, false},
		{math.MaxInt, 1, false}, {1, math.MaxInt, false}, {math.MaxInt, math.MaxInt, false},
		{math.MinInt, math.MinInt, false}, {math.MinInt, 0, false}, {0, math.MinInt, false},
		{math.MinInt, math.MaxInt, false}, {math.MaxInt, math.MinInt, false},
	} {
		if got := Within(b, c.at, c.n); got != c.want {
			t.Errorf("Within(9 bytes, %d, %d) = %v", c.at, c.n, got)
		}
	}
}

func TestWithinEdges(t *testing.T) {
	for length := range 10 {
		b := sample()[:length]
		for _, at := range edges() {
			for _, n := range edges() {
				if got, want := Within(b, at, n), inBounds(length, at, n, 1); got != want {
					t.Errorf("Within(%d bytes, %d, %d) = %v", length, at, n, got)
				}
			}
		}
	}
}

func TestWithinCountsNoSpareRoom(t *testing.T) {
	b := sample()[:3]
	if Within(b, 0, 4) || Within(b, 4, 0) {
		t.Error("spare room is no part of the bytes")
	}
	if _, ok := U32(b, 0); ok {
		t.Error("U32 read spare room")
	}
}

func TestReadNamed(t *testing.T) {
	b := []byte{1, 2, 3}
	if n, ok := U16(b, 1); n != 515 || !ok {
		t.Errorf("U16 = %d, %v", n, ok)
	}
	if n, ok := U8([]byte{7, 255}, 1); n != 255 || !ok {
		t.Errorf("U8 = %d, %v", n, ok)
	}
	if n, ok := U32([]byte{0xff, 0xff, 0xff, 0xff}, 0); n != 1<<32-1 || !ok {
		t.Errorf("U32 = %d, %v", n, ok)
	}
	if n, ok := U32([]byte{0, 0x80, 0, 0, 1}, 1); n != 1<<31+1 || !ok {
		t.Errorf("U32 = %d, %v", n, ok)
	}
}

func TestReadEverywhere(t *testing.T) {
	readers := map[string]struct {
		size int
		read func([]byte, int) (int, bool)
	}{"U8": {1, U8}, "U16": {2, U16}, "U32": {4, U32}}
	for name, r := range readers {
		for length := range 10 {
			b := sample()[:length]
			for _, at := range edges() {
				wantOK := inBounds(length, at, 1, r.size)
				want := 0
				if wantOK {
					want = value(b, at, r.size)
				}
				if got, ok := r.read(b, at); got != want || ok != wantOK {
					t.Errorf("%s(%d bytes, %d) = %d, %v, want %d, %v", name, length, at, got, ok, want, wantOK)
				}
			}
		}
	}
}

func TestI16OfAllNumbers(t *testing.T) {
	for n := range 1 << 16 {
		want := n
		if n >= 1<<15 {
			want -= 1 << 16
		}
		b := []byte{9, byte(n / 256), byte(n % 256)}
		if got, ok := I16(b, 1); got != want || !ok {
			t.Fatalf("I16 of %d = %d, %v", n, got, ok)
		}
	}
}

func TestI16NotWithin(t *testing.T) {
	for length := range 10 {
		b := sample()[:length]
		for _, at := range edges() {
			if inBounds(length, at, 1, 2) {
				continue
			}
			if got, ok := I16(b, at); got != 0 || ok {
				t.Errorf("I16(%d bytes, %d) = %d, %v", length, at, got, ok)
			}
		}
	}
}

func TestTag(t *testing.T) {
	if s, ok := Tag([]byte("xcmapx"), 1); s != "cmap" || !ok {
		t.Errorf("Tag = %q, %v", s, ok)
	}
	for length := range 10 {
		b := sample()[:length]
		for _, at := range edges() {
			wantOK := inBounds(length, at, 1, 4)
			want := ""
			if wantOK {
				for i := range 4 {
					want += string(b[at+i : at+i+1])
				}
			}
			if got, ok := Tag(b, at); got != want || ok != wantOK {
				t.Errorf("Tag(%d bytes, %d) = %q, %v", length, at, got, ok)
			}
		}
	}
}

func TestNilBytes(t *testing.T) {
	if !Within(nil, 0, 0) || Within(nil, 0, 1) || Within(nil, 1, 0) {
		t.Error("Within of nil")
	}
	if n, ok := U8(nil, 0); n != 0 || ok {
		t.Error("U8 of nil")
	}
	if l, ok := Row(nil, 0, 0, 2); len(l) != 0 || !ok {
		t.Error("Row of nil")
	}
	if Sum(nil) != 0 {
		t.Error("Sum of nil")
	}
}

// P1.3

func TestRowNamed(t *testing.T) {
	b := sample()
	for _, c := range []struct {
		at, n, size int
		want        []int
	}{
		{0, 3, 1, []int{0x01, 0x80, 0xff}},
		{1, 4, 2, []int{0x80ff, 0x7f00, 0xfe23, 0x8145}},
		{1, 2, 4, []int{0x80ff7f00, 0xfe238145}},
		{9, 0, 1, nil}, {9, 0, 2, nil}, {9, 0, 4, nil}, {0, 0, 4, nil},
	} {
		got, ok := Row(b, c.at, c.n, c.size)
		if !ok || !slices.Equal(got, c.want) {
			t.Errorf("Row(%d, %d, %d) = %v, %v", c.at, c.n, c.size, got, ok)
		}
	}
}

func TestRowEverywhere(t *testing.T) {
	for _, size := range []int{1, 2, 4} {
		for length := range 10 {
			b := sample()[:length]
			for _, at := range edges() {
				for _, n := range edges() {
					checkRow(t, b, at, n, size)
				}
			}
		}
	}
}

func checkRow(t *testing.T, b []byte, at, n, size int) {
	t.Helper()
	wantOK := inBounds(len(b), at, n, size)
	var want []int
	if wantOK {
		for i := range n {
			want = append(want, value(b, at+i*size, size))
		}
	}
	if got, ok := Row(b, at, n, size); ok != wantOK || !slices.Equal(got, want) {
		t.Errorf("Row(%d bytes, %d, %d, %d) = %v, %v", len(b), at, n, size, got, ok)
	}
}

func TestRowOfOtherSizes(t *testing.T) {
	b := sample()
	for _, size := range append(edges(), 3, 5, 6, 7, 8) {
		if size == 1 || size == 2 || size == 4 {
			continue
		}
		for _, n := range []int{-1, 0, 1} {
			if got, ok := Row(b, 0, n, size); ok || len(got) != 0 {
				t.Errorf("Row(0, %d, %d) = %v, %v", n, size, got, ok)
			}
		}
	}
}

// Each of these lengths is a multiple of 2^64, so that n * size alone would seem to be 0.
func TestRowOfWrappedLength(t *testing.T) {
	for _, c := range [][2]int{{1 << 62, 4}, {-1 << 62, 4}, {math.MinInt, 2}, {math.MinInt, 4}} {
		if got, ok := Row(sample(), 0, c[0], c[1]); ok || len(got) != 0 {
			t.Errorf("Row(0, %d, %d) = %v, %v", c[0], c[1], got, ok)
		}
	}
}

// P1.4

func TestPutNamed(t *testing.T) {
	for _, c := range []struct {
		n, size int
		want    []byte
	}{
		{258, 2, []byte{1, 2}}, {258, 1, []byte{2}}, {258, 4, []byte{0, 0, 1, 2}}, {258, 0, nil},
		{-2, 3, []byte{0xff, 0xff, 0xfe}}, {-1, 8, bytes.Repeat([]byte{0xff}, 8)},
		{0x0102030405060708, 8, []byte{1, 2, 3, 4, 5, 6, 7, 8}},
		{0x0102030405060708, 5, []byte{4, 5, 6, 7, 8}},
		{math.MinInt, 8, []byte{0x80, 0, 0, 0, 0, 0, 0, 0}},
	} {
		if got := Put(c.n, c.size); !bytes.Equal(got, c.want) {
			t.Errorf("Put(%d, %d) = %x", c.n, c.size, got)
		}
	}
}

func TestPutOfAllSizes(t *testing.T) {
	for _, n := range edges() {
		low := new(big.Int).Mod(large(n), new(big.Int).Lsh(large(1), 64))
		for size := range 9 {
			want := low.FillBytes(make([]byte, 8))[8-size:]
			if got := Put(n, size); !bytes.Equal(got, want) {
				t.Errorf("Put(%d, %d) = %x, want %x", n, size, got, want)
			}
		}
	}
}

func TestPutOfOtherSizes(t *testing.T) {
	for _, size := range append(edges(), 9, 10, 16, 100) {
		if size >= 0 && size <= 8 {
			continue
		}
		if got := Put(1, size); len(got) != 0 {
			t.Errorf("Put(1, %d) has %d bytes", size, len(got))
		}
	}
}

func TestSumNamed(t *testing.T) {
	for _, c := range []struct {
		b    []byte
		want int
	}{
		{nil, 0}, {[]byte{1}, 16777216}, {[]byte{1, 2}, 0x01020000}, {[]byte{1, 2, 3}, 0x01020300},
		{[]byte{1, 2, 3, 4}, 0x01020304}, {[]byte{1, 2, 3, 4, 5}, 0x06020304},
		{[]byte{0xff, 0xff, 0xff, 0xff}, 1<<32 - 1},
		{[]byte{0xff, 0xff, 0xff, 0xff, 0, 0, 0, 1}, 0},
		{[]byte{0xff, 0xff, 0xff, 0xff, 0xff, 0xff, 0xff, 0xff}, 1<<32 - 2},
		{[]byte{0x80, 0, 0, 0, 0x80, 0, 0, 5}, 5},
		{[]byte{0x80, 0, 0, 0}, 1 << 31},
	} {
		if got := Sum(c.b); got != c.want {
			t.Errorf("Sum(%x) = %d, want %d", c.b, got, c.want)
		}
	}
}

// The spare room behind the bytes isn't 0: what lacks is, whatever stands there.
func TestSumOfAllLengths(t *testing.T) {
	all := bytes.Repeat(sample(), 5)
	for length := range len(all) {
		b := all[:length]
		padded := append(bytes.Clone(b), 0, 0, 0)
		want := 0
		for at := 0; at < length; at += 4 {
			want = (want + value(padded, at, 4)) % (1 << 32)
		}
		if got := Sum(b); got != want {
			t.Errorf("Sum of %d bytes = %d, want %d", length, got, want)
		}
	}
}

// P1.5

func TestPutIsReadAgain(t *testing.T) {
	readers := map[int]func([]byte, int) (int, bool){1: U8, 2: U16, 4: U32}
	for size, read := range readers {
		for _, n := range edges() {
			want := n & (1<<(8*size) - 1)
			for at := range 3 {
				b := append(append(sample()[:at:at], Put(n, size)...), 0x77)
				if got, ok := read(b, at); got != want || !ok {
					t.Errorf("%d put in %d bytes is read as %d, %v", n, size, got, ok)
				}
			}
		}
	}
}

func TestPutIsReadAgainWithSign(t *testing.T) {
	for n := -1 << 15; n < 1<<15; n++ {
		if got, ok := I16(Put(n, 2), 0); got != n || !ok {
			t.Fatalf("%d is read as %d, %v", n, got, ok)
		}
	}
	for _, n := range edges() {
		if got, ok := U32(Put(n, 4), 0); Wrap(got) != Wrap(n) || !ok {
			t.Errorf("%d is read as %d, %v", n, got, ok)
		}
	}
}

func TestPutRowIsReadAgain(t *testing.T) {
	for _, size := range []int{1, 2, 4} {
		var b []byte
		var want []int
		for _, n := range edges() {
			b = append(b, Put(n, size)...)
			want = append(want, n&(1<<(8*size)-1))
		}
		if got, ok := Row(b, 0, len(want), size); !ok || !slices.Equal(got, want) {
			t.Errorf("size %d: %v, %v", size, got, ok)
		}
	}
}

func TestPutTagIsReadAgain(t *testing.T) {
	if s, ok := Tag(Put('c'<<24|'m'<<16|'a'<<8|'p', 4), 0); s != "cmap" || !ok {
		t.Errorf("%q, %v", s, ok)
	}
}

func TestAddBrackets(t *testing.T) {
	for _, a := range edges() {
		for _, b := range edges() {
			if Add(a, b) != Add(b, a) || Add(Wrap(a), b) != Add(a, b) {
				t.Fatalf("%d and %d", a, b)
			}
			for _, c := range edges() {
				if left, right := Add(Add(a, b), c), Add(a, Add(b, c)); left != right {
					t.Fatalf("%d, %d, %d: %d and %d", a, b, c, left, right)
				}
			}
		}
	}
}

// Rules that hold everywhere, of what is handed in and of what is answered.

func TestBytesAreNotChanged(t *testing.T) {
	whole := sample()
	b := whole[:5]
	for at := -1; at < 7; at++ {
		Within(b, at, 2)
		U8(b, at)
		U16(b, at)
		I16(b, at)
		U32(b, at)
		Tag(b, at)
		Row(b, at, 2, 2)
	}
	Sum(b)
	if !bytes.Equal(whole, sample()) {
		t.Errorf("changed to %x", whole)
	}
}

func TestAnswersAreNew(t *testing.T) {
	b := []byte("abcdefgh")
	s, _ := Tag(b, 0)
	row, _ := Row(b, 0, 8, 1)
	b[0] = 'z'
	if s != "abcd" || row[0] != 'a' {
		t.Error("an answer changes with what was handed in")
	}
	again, _ := Row(b, 0, 8, 1)
	row[1] = 0
	if again[1] != 'b' || b[1] != 'b' {
		t.Error("two rows share memory")
	}
	one, two := Put(258, 2), Put(258, 2)
	one[0] = 9
	if two[0] != 1 {
		t.Error("two answers of Put share memory")
	}
}
