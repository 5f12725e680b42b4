package cover

import (
	"math"
	"math/rand"
	"slices"
	"testing"

	"reedpen/api"
)

// glyphs is how many there may be.
const glyphs = 65536

// table is numbers as bytes, two of each.
func table(n ...int) []byte {
	var out []byte
	for _, x := range n {
		out = append(out, byte(x>>8), byte(x))
	}
	return out
}

// sp are spans of pairs of numbers.
func sp(n ...int) []api.Span {
	var out []api.Span
	for i := 0; i < len(n); i += 2 {
		out = append(out, api.Span{From: n[i], To: n[i+1]})
	}
	return out
}

// cl are classes of threes of numbers.
func cl(n ...int) []api.Class {
	var out []api.Class
	for i := 0; i < len(n); i += 3 {
		out = append(out, api.Class{From: n[i], To: n[i+1], Class: n[i+2]})
	}
	return out
}

// number is that of two bytes from a place on; -1, if they aren't within.
func number(b []byte, at int) int {
	if at < 0 || at > len(b)-2 {
		return -1
	}
	return int(b[at])*256 + int(b[at+1])
}

// numbers are n of them, one behind the other; false, if one isn't within.
func numbers(b []byte, at, n int) ([]int, bool) {
	var out []int
	for i := range n {
		x := number(b, at+2*i)
		if x < 0 {
			return nil, false
		}
		out = append(out, x)
	}
	return out, true
}

// plainCover are all glyphs of a coverage, by the chapter's words.
func plainCover(b []byte, at int) ([]int, bool) {
	switch number(b, at) {
	case 1:
		l, ok := numbers(b, at+4, number(b, at+2))
		for i := range l {
			ok = ok && (i == 0 || l[i] > l[i-1])
		}
		return l, ok && number(b, at+2) >= 0
	case 2:
		var out []int
		l, ok := numbers(b, at+4, 3*max(number(b, at+2), 0))
		ok = ok && number(b, at+2) >= 0
		for i := 0; ok && i < len(l); i += 3 {
			ok = l[i] <= l[i+1] && (i == 0 || l[i] > l[i-2]) && l[i+2] == len(out)
			for g := l[i]; ok && g <= l[i+1]; g++ {
				out = append(out, g)
			}
		}
		return out, ok
	}
	return nil, false
}

// plainClasses is the class of each glyph of a class table, by the chapter's words.
func plainClasses(b []byte, at int) ([]int, bool) {
	out := make([]int, glyphs)
	switch number(b, at) {
	case 1:
		n := number(b, at+4)
		l, ok := numbers(b, at+6, n)
		if !ok || n < 0 || number(b, at+2)+n > glyphs {
			return nil, false
		}
		copy(out[number(b, at+2):], l)
		return out, true
	case 2:
		l, ok := numbers(b, at+4, 3*max(number(b, at+2), 0))
		ok = ok && number(b, at+2) >= 0
		for i := 0; ok && i < len(l); i += 3 {
			ok = l[i] <= l[i+1] && (i == 0 || l[i] > l[i-2])
			for g := l[i]; ok && g <= l[i+1]; g++ {
				out[g] = l[i+2]
			}
		}
		return out, ok
	}
	return nil, false
}

// plainSpans are the fewest spans of glyphs that rise.
func plainSpans(l []int) []api.Span {
	var out []api.Span
	for i, g := range l {
		if i == 0 || g != l[i-1]+1 {
			out = append(out, api.Span{From: g})
		}
		out[len(out)-1].To = g
	}
	return out
}

// plainRanges are the fewest ranges of glyphs of classes other than 0.
func plainRanges(class []int) []api.Class {
	var out []api.Class
	ahead := 0
	for g, c := range class {
		if c != 0 && c != ahead {
			out = append(out, api.Class{From: g, Class: c})
		}
		if c != 0 {
			out[len(out)-1].To = g
		}
		ahead = c
	}
	return out
}

// those are the glyphs of which something holds.
func those(holds func(glyph int) bool) []int {
	var out []int
	for g := range glyphs {
		if holds(g) {
			out = append(out, g)
		}
	}
	return out
}

// sameCover holds what Cover tells against the chapter's words.
func sameCover(t *testing.T, b []byte, at int) bool {
	t.Helper()
	want, ok := plainCover(b, at)
	if !ok {
		want = nil
	}
	l, told := Cover(b, at)
	if told != ok || !slices.Equal(l, plainSpans(want)) {
		t.Errorf("% x at %d: %v %v, not %v", b, at, l, told, ok)
	}
	return ok
}

// sameClasses holds what Classes tells against the chapter's words.
func sameClasses(t *testing.T, b []byte, at int) bool {
	t.Helper()
	want, ok := plainClasses(b, at)
	if !ok {
		want = nil
	}
	l, told := Classes(b, at)
	if told != ok || !slices.Equal(l, plainRanges(want)) {
		t.Errorf("% x at %d: %v %v, not %v", b, at, l, told, ok)
	}
	return ok
}

// both puts lists together.
func both(a, b []byte) []byte { return slices.Concat(a, b) }

// P10.1: coverages.
func TestCover(t *testing.T) {
	for _, x := range []struct {
		name string
		b    []byte
		at   int
		want []api.Span
	}{
		{"chapter", []byte{0, 1, 0, 2, 0, 5, 0, 6}, 0, sp(5, 6)},
		{"1: none", table(1, 0), 0, nil},
		{"1: none, and more behind", table(1, 0, 9), 0, nil},
		{"1: one", table(1, 1, 7), 0, sp(7, 7)},
		{"1: apart", table(1, 3, 1, 3, 5), 0, sp(1, 1, 3, 3, 5, 5)},
		{"1: side by side", table(1, 5, 1, 2, 3, 9, 10), 0, sp(1, 3, 9, 10)},
		{"1: the first and the last", table(1, 2, 0, 65535), 0, sp(0, 0, 65535, 65535)},
		{"1: above a byte", table(1, 2, 255, 256), 0, sp(255, 256)},
		{"1: at a place", both([]byte{9}, table(1, 1, 7)), 1, sp(7, 7)},
		{"1: more behind", table(1, 1, 7, 8), 0, sp(7, 7)},
		{"1: the last bytes", table(7, 7, 1, 0), 4, nil},
		{"2: none", table(2, 0), 0, nil},
		{"2: the last bytes", both([]byte{1}, table(2, 0)), 1, nil},
		{"2: one", table(2, 1, 7, 7, 0), 0, sp(7, 7)},
		{"2: a range", table(2, 1, 7, 300, 0), 0, sp(7, 300)},
		{"2: apart", table(2, 3, 1, 3, 0, 5, 5, 3, 9, 10, 4), 0, sp(1, 3, 5, 5, 9, 10)},
		{"2: side by side", table(2, 3, 1, 3, 0, 4, 4, 3, 5, 6, 4), 0, sp(1, 6)},
		{"2: some side by side", table(2, 3, 1, 3, 0, 4, 4, 3, 6, 6, 4), 0, sp(1, 4, 6, 6)},
		{"2: all", table(2, 1, 0, 65535, 0), 0, sp(0, 65535)},
		{"2: all, in two", table(2, 2, 0, 65534, 0, 65535, 65535, 65535), 0, sp(0, 65535)},
		{"2: the first and the last", table(2, 2, 0, 0, 0, 65535, 65535, 1), 0, sp(0, 0, 65535, 65535)},
		{"2: at a place, more behind", both([]byte{9, 9, 9}, table(2, 1, 7, 8, 0, 9)), 3, sp(7, 8)},
	} {
		if l, ok := Cover(x.b, x.at); !ok || !slices.Equal(l, x.want) {
			t.Error(x.name, l, ok)
		}
		sameCover(t, x.b, x.at)
	}
}

// P10.1: bytes that are no coverage.
func TestNoCover(t *testing.T) {
	for _, x := range []struct {
		name string
		b    []byte
		at   int
	}{
		{"nothing", nil, 0},
		{"below 0", table(1, 0), -1},
		{"below 0 by a count", table(1, 1, 1, 0), -2},
		{"the least place", table(1, 0), math.MinInt},
		{"at the end", table(1, 0), 4},
		{"beyond", table(1, 0), 5},
		{"the greatest place", table(1, 0), math.MaxInt},
		{"a greatest place", table(1, 0), math.MaxInt - 3},
		{"half a format", []byte{0, 1, 0, 0, 1}, 4},
		{"no count", table(9, 1), 2},
		{"no count of 2", table(9, 2), 2},
		{"half a count", []byte{0, 1, 0}, 0},
		{"half a count of 2", []byte{0, 2, 0}, 0},
		{"format 0", table(0, 0), 0},
		{"format 3", table(3, 0), 0},
		{"format 257", table(257, 0), 0},
		{"format 65535", table(65535, 0), 0},
		{"1: no glyph", table(1, 1), 0},
		{"1: half a glyph", both(table(1, 2, 1), []byte{0}), 0},
		{"1: as many as there can't be", table(1, 65535, 1, 2), 0},
		{"1: one twice", table(1, 2, 5, 5), 0},
		{"1: falling", table(1, 2, 6, 5), 0},
		{"1: falling in the end", table(1, 3, 5, 7, 6), 0},
		{"1: 0 twice", table(1, 2, 0, 0), 0},
		{"2: no range", table(2, 1), 0},
		{"2: no index", table(2, 1, 1, 2), 0},
		{"2: half an index", both(table(2, 1, 1, 2), []byte{0}), 0},
		{"2: one too few", table(2, 2, 1, 2, 0, 4, 5), 0},
		{"2: as many as there can't be", table(2, 65535, 1, 2, 0), 0},
		{"2: first above last", table(2, 1, 3, 1, 0), 0},
		{"2: first above last by 1", table(2, 1, 1, 0, 0), 0},
		{"2: over the one ahead", table(2, 2, 1, 3, 0, 3, 4, 3), 0},
		{"2: within the one ahead", table(2, 2, 1, 9, 0, 3, 4, 9), 0},
		{"2: ahead of the one ahead", table(2, 2, 5, 6, 0, 1, 2, 2), 0},
		{"2: 0 twice", table(2, 2, 0, 0, 0, 0, 0, 1), 0},
		{"2: an index from 1 on", table(2, 1, 1, 3, 1), 0},
		{"2: an index too small", table(2, 2, 1, 3, 0, 5, 6, 2), 0},
		{"2: an index too great", table(2, 2, 1, 3, 0, 5, 6, 4), 0},
		{"2: an index of ranges", table(2, 2, 1, 3, 0, 5, 6, 1), 0},
		{"2: an index of the range ahead alone", table(2, 3, 1, 3, 0, 5, 6, 3, 8, 8, 2), 0},
	} {
		if l, ok := Cover(x.b, x.at); ok || l != nil {
			t.Error(x.name, l, ok)
		}
		if sameCover(t, x.b, x.at) {
			t.Error(x.name)
		}
	}
}

// P10.1: class tables.
func TestClasses(t *testing.T) {
	for _, x := range []struct {
		name string
		b    []byte
		at   int
		want []api.Class
	}{
		{"1: none", table(1, 5, 0), 0, nil},
		{"1: none, of the last glyph", table(1, 65535, 0), 0, nil},
		{"1: the last bytes", both([]byte{9}, table(1, 5, 0)), 1, nil},
		{"1: one", table(1, 5, 1, 3), 0, cl(5, 5, 3)},
		{"1: of class 0", table(1, 5, 3, 0, 0, 0), 0, nil},
		{"1: side by side", table(1, 5, 4, 2, 2, 1, 1), 0, cl(5, 6, 2, 7, 8, 1)},
		{"1: a class of 0 within", table(1, 5, 5, 2, 2, 0, 1, 2), 0, cl(5, 6, 2, 8, 8, 1, 9, 9, 2)},
		{"1: a class of 0 between alike ones", table(1, 5, 3, 2, 0, 2), 0, cl(5, 5, 2, 7, 7, 2)},
		{"1: the first glyph", table(1, 0, 2, 0, 4), 0, cl(1, 1, 4)},
		{"1: the last glyph", table(1, 65535, 1, 4), 0, cl(65535, 65535, 4)},
		{"1: up to the last glyph", table(1, 65533, 3, 4, 5, 4), 0, cl(65533, 65533, 4, 65534, 65534, 5, 65535, 65535, 4)},
		{"1: great classes", table(1, 1, 2, 65535, 256), 0, cl(1, 1, 65535, 2, 2, 256)},
		{"1: more behind", table(1, 1, 1, 4, 4), 0, cl(1, 1, 4)},
		{"2: none", table(2, 0), 0, nil},
		{"2: the last bytes", table(1, 2, 0), 2, nil},
		{"2: one", table(2, 1, 7, 7, 1), 0, cl(7, 7, 1)},
		{"2: of class 0", table(2, 1, 7, 9, 0), 0, nil},
		{"2: apart", table(2, 2, 1, 2, 7, 4, 4, 7), 0, cl(1, 2, 7, 4, 4, 7)},
		{"2: side by side", table(2, 3, 1, 2, 7, 3, 3, 7, 4, 5, 8), 0, cl(1, 3, 7, 4, 5, 8)},
		{"2: class 0 within", table(2, 3, 1, 2, 7, 3, 3, 0, 4, 5, 7), 0, cl(1, 2, 7, 4, 5, 7)},
		{"2: all", table(2, 1, 0, 65535, 65535), 0, cl(0, 65535, 65535)},
		{"2: all, in two", table(2, 2, 0, 9, 1, 10, 65535, 1), 0, cl(0, 65535, 1)},
		{"2: the first and the last", table(2, 2, 0, 0, 1, 65535, 65535, 2), 0, cl(0, 0, 1, 65535, 65535, 2)},
		{"2: at a place, more behind", both([]byte{9, 9, 9}, table(2, 1, 7, 8, 2, 9)), 3, cl(7, 8, 2)},
	} {
		if l, ok := Classes(x.b, x.at); !ok || !slices.Equal(l, x.want) {
			t.Error(x.name, l, ok)
		}
		sameClasses(t, x.b, x.at)
	}
}

// P10.1: bytes that are no class table.
func TestNoClasses(t *testing.T) {
	for _, x := range []struct {
		name string
		b    []byte
		at   int
	}{
		{"nothing", nil, 0},
		{"below 0", table(1, 0, 0), -1},
		{"below 0 by a glyph", table(1, 1, 1, 0), -2},
		{"the least place", table(1, 0, 0), math.MinInt},
		{"at the end", table(1, 0, 0), 6},
		{"beyond", table(1, 0, 0), 7},
		{"the greatest place", table(1, 0, 0), math.MaxInt},
		{"a greatest place", table(1, 0, 0), math.MaxInt - 5},
		{"half a format", []byte{0, 2, 0, 0, 1}, 4},
		{"no first glyph", table(9, 1), 2},
		{"no count", table(1, 1), 0},
		{"half a count", both(table(1, 1), []byte{0}), 0},
		{"no count of 2", table(9, 2), 2},
		{"half a count of 2", []byte{0, 2, 0}, 0},
		{"format 0", table(0, 0, 0), 0},
		{"format 3", table(3, 0, 0), 0},
		{"format 258", table(258, 0, 0), 0},
		{"format 65535", table(65535, 0, 0), 0},
		{"1: no class", table(1, 1, 1), 0},
		{"1: half a class", both(table(1, 1, 2, 1), []byte{0}), 0},
		{"1: as many as there can't be", table(1, 0, 65535, 1), 0},
		{"1: one glyph more than there are", table(1, 65535, 2, 1, 1), 0},
		{"1: two glyphs more than there are, of class 0", table(1, 65534, 4, 0, 0, 0, 0), 0},
		{"2: no range", table(2, 1), 0},
		{"2: no class", table(2, 1, 1, 2), 0},
		{"2: half a class", both(table(2, 1, 1, 2), []byte{0}), 0},
		{"2: one too few", table(2, 2, 1, 2, 1, 4, 5), 0},
		{"2: as many as there can't be", table(2, 65535, 1, 2, 1), 0},
		{"2: first above last", table(2, 1, 3, 1, 1), 0},
		{"2: first above last, of class 0", table(2, 1, 1, 0, 0), 0},
		{"2: over the one ahead", table(2, 2, 1, 3, 1, 3, 4, 1), 0},
		{"2: over the one ahead, of class 0", table(2, 2, 1, 3, 0, 3, 4, 1), 0},
		{"2: within the one ahead", table(2, 2, 1, 9, 1, 3, 4, 2), 0},
		{"2: ahead of the one ahead", table(2, 2, 5, 6, 1, 1, 2, 1), 0},
		{"2: 0 twice", table(2, 2, 0, 0, 1, 0, 0, 1), 0},
	} {
		if l, ok := Classes(x.b, x.at); ok || l != nil {
			t.Error(x.name, l, ok)
		}
		if sameClasses(t, x.b, x.at) {
			t.Error(x.name)
		}
	}
}

// P10.1: a first glyph and a count that make 65,536 just, and one more; as many glyphs as two bytes count; whole tables whose ranges are all of one glyph.
func TestLongTables(t *testing.T) {
	for _, count := range []int{1, 2, 30000, 65535} {
		classes := make([]int, count)
		for i := range classes {
			classes[i] = i % 3
		}
		for first := glyphs - count - 1; first <= glyphs-count+1 && first < glyphs; first++ {
			b := table(append([]int{1, first, count}, classes...)...)
			if ok := sameClasses(t, b, 0); ok != (first+count <= glyphs) {
				t.Error(first, count, ok)
			}
			if _, ok := Classes(b[:len(b)-1], 0); ok {
				t.Error("cut", first, count)
			}
		}
	}
	list := []int{1, 65535}
	for g := range 65536 {
		if g != 40000 {
			list = append(list, g)
		}
	}
	if !sameCover(t, table(list...), 0) || sameCover(t, table(list...)[:len(list)*2-1], 0) {
		t.Error("as many glyphs as are counted")
	}
	cover, class := []int{2, 32768}, []int{2, 65535}
	for i := range 32768 {
		cover = append(cover, 2*i, 2*i, i)
	}
	for g := range 65535 {
		class = append(class, g, g, g/2%5)
	}
	if !sameCover(t, table(cover...), 0) || !sameClasses(t, table(class...), 0) {
		t.Error("as many ranges as there may be")
	}
}

// lists are all lists of n of some numbers.
func lists(n int, of ...int) [][]int {
	out := [][]int{nil}
	for range n {
		var longer [][]int
		for _, l := range out {
			for _, x := range of {
				longer = append(longer, append(slices.Clone(l), x))
			}
		}
		out = longer
	}
	return out
}

// P10.1: all short tables of some numbers, whole, and cut off by one byte.
func TestAllShortTables(t *testing.T) {
	good := 0
	hold := func(b []byte) {
		for _, ok := range []bool{sameCover(t, b, 0), sameClasses(t, b, 0)} {
			if ok {
				good++
			}
		}
		if _, ok := Cover(b[:len(b)-1], 0); ok {
			t.Errorf("% x is cut off", b)
		}
	}
	for n := range 4 {
		for _, l := range lists(n, 0, 1, 2, 3, 5, 65534, 65535) {
			hold(table(append([]int{1, n}, l...)...))
		}
	}
	for _, l := range lists(3, 0, 1, 2, 65535) {
		hold(table(append([]int{2, 1}, l...)...))
	}
	for _, l := range lists(6, 0, 1, 2, 3) {
		hold(table(append([]int{2, 2}, l...)...))
	}
	for _, first := range []int{0, 1, 65533, 65534, 65535} {
		for n := range 4 {
			for _, l := range lists(n, 0, 1, 2) {
				if sameClasses(t, table(append([]int{1, first, n}, l...)...), 0) {
					good++
				}
			}
		}
	}
	if good < 500 {
		t.Error("too few good tables:", good)
	}
}

// anyRanges are ranges that rise, from 0 on or not, some side by side, some up to the last glyph.
func anyRanges(r *rand.Rand) []api.Span {
	var out []api.Span
	from := r.Intn(1 + []int{0, 10, 60000}[r.Intn(3)])
	for range r.Intn(12) {
		to := from + r.Intn(1+[]int{0, 3, 20000}[r.Intn(3)])
		if r.Intn(20) == 0 {
			to = glyphs - 1
		}
		if to >= glyphs {
			break
		}
		out = append(out, api.Span{From: from, To: to})
		from = to + 1 + r.Intn(1+[]int{0, 2, 9000}[r.Intn(3)])
		if from >= glyphs {
			break
		}
	}
	return out
}

// anyCover is a coverage of some ranges, of either format.
func anyCover(r *rand.Rand) []byte {
	l := anyRanges(r)
	count, two := 0, []int{2, len(l)}
	one := []int{1, 0}
	for _, s := range l {
		two = append(two, s.From, s.To, count)
		for g := s.From; g <= s.To; g++ {
			one = append(one, g)
			count++
		}
	}
	if one[1] = count; count > 5000 || r.Intn(2) == 0 {
		return table(two...)
	}
	return table(one...)
}

// anyClasses is a class table of some ranges, of either format.
func anyClasses(r *rand.Rand) []byte {
	if r.Intn(2) == 0 {
		n := r.Intn(200)
		out := []int{1, []int{0, r.Intn(60000), glyphs - max(n, 1)}[r.Intn(3)], n}
		for range n {
			out = append(out, r.Intn(4)*r.Intn(2))
		}
		return table(out...)
	}
	l := anyRanges(r)
	out := []int{2, len(l)}
	for _, s := range l {
		out = append(out, s.From, s.To, r.Intn(4))
	}
	return table(out...)
}

// P10.1: any tables, cut off anywhere, with a byte that is another, at any place; and any bytes.
func TestAnyTables(t *testing.T) {
	r := rand.New(rand.NewSource(10))
	good, bad := 0, 0
	told := func(ok bool) {
		if ok {
			good++
		} else {
			bad++
		}
	}
	for range 300 {
		at := r.Intn(4)
		for _, b := range [][]byte{anyCover(r), anyClasses(r)} {
			b = both(make([]byte, at), b)
			told(sameCover(t, b, at))
			told(sameClasses(t, b, at))
			cut := b[:r.Intn(len(b)+1)]
			told(sameCover(t, cut, at))
			told(sameClasses(t, cut, at))
			other := slices.Clone(b)
			other[r.Intn(min(len(b), 40))] += byte(1 + r.Intn(255))
			told(sameCover(t, other, at))
			told(sameClasses(t, other, at))
		}
		free := make([]byte, r.Intn(30))
		for i := range free {
			free[i] = byte(r.Intn(3)) * byte(r.Intn(2))
		}
		for at := -2; at < len(free)+2; at++ {
			told(sameCover(t, free, at))
			told(sameClasses(t, free, at))
		}
	}
	if good < 1000 || bad < 1000 {
		t.Error("too few:", good, bad)
	}
}

// P10.2: written out.
func TestCountIndexOfHas(t *testing.T) {
	l := sp(2, 2, 4, 6, 10, 11, 65535, 65535)
	for g, want := range map[int]int{2: 0, 4: 1, 5: 2, 6: 3, 10: 4, 11: 5, 65535: 6, 0: -1, 1: -1, 3: -1, 7: -1, 9: -1, 12: -1, 65534: -1, 65536: -1, -1: -1, math.MinInt: -1, math.MaxInt: -1} {
		if i := Index(l, g); i != want {
			t.Error("index of", g, i)
		}
		if Has(api.Set{Spans: l}, g) != (want >= 0) || Has(api.Set{Spans: l, Not: true}, g) != (want < 0) {
			t.Error("set of", g)
		}
		if Index(nil, g) != -1 || Of(nil, g) != 0 || Has(api.Set{}, g) || !Has(api.Set{Not: true}, g) {
			t.Error("of none:", g)
		}
		if Index([]api.Span{}, g) != -1 || Of([]api.Class{}, g) != 0 || Has(api.Set{Spans: []api.Span{}}, g) {
			t.Error("of an empty list:", g)
		}
	}
	for _, x := range []struct {
		l    []api.Span
		want int
	}{{nil, 0}, {[]api.Span{}, 0}, {sp(0, 0), 1}, {sp(65535, 65535), 1}, {sp(0, 65535), 65536}, {sp(5, 6), 2}, {l, 7}} {
		if n := Count(x.l); n != x.want {
			t.Error(x.l, n)
		}
	}
	c := cl(0, 0, 1, 3, 5, 2, 6, 6, 1, 8, 9, 65535, 65535, 65535, 3)
	for g, want := range map[int]int{0: 1, 1: 0, 2: 0, 3: 2, 4: 2, 5: 2, 6: 1, 7: 0, 8: 65535, 9: 65535, 10: 0, 65534: 0, 65535: 3, 65536: 0, -1: 0, math.MinInt: 0, math.MaxInt: 0} {
		if n := Of(c, g); n != want {
			t.Error("class of", g, n)
		}
	}
	all := sp(0, 65535)
	for _, g := range []int{0, 1, 255, 256, 65534, 65535} {
		if Index(all, g) != g || !Has(api.Set{Spans: all}, g) || Of(cl(0, 65535, 4), g) != 4 {
			t.Error("of all:", g)
		}
	}
	if Index(all, -1) != -1 || Index(all, 65536) != -1 || Of(cl(0, 65535, 4), 65536) != 0 {
		t.Error("beside all")
	}
}

// sameSet holds a set against the glyphs that it is to have.
func sameSet(t *testing.T, name any, s api.Set, holds func(glyph int) bool) {
	t.Helper()
	for g := range glyphs {
		if Has(s, g) != holds(g) {
			t.Fatal(name, s, g)
		}
	}
}

// P10.2, P10.3, P10.4: what is told of any tables, held against plain tables of all glyphs.
func TestAllGlyphs(t *testing.T) {
	r := rand.New(rand.NewSource(11))
	for i := range 60 {
		b := anyCover(r)
		l, _ := Cover(b, 0)
		list, _ := plainCover(b, 0)
		index := slices.Repeat([]int{-1}, glyphs)
		for k, g := range list {
			index[g] = k
		}
		for g, k := range index {
			if Index(l, g) != k || Has(api.Set{Spans: l}, g) != (k >= 0) || Has(api.Set{Spans: l, Not: true}, g) != (k < 0) {
				t.Fatal(i, l, g, k)
			}
		}
		if Count(l) != len(list) {
			t.Fatal(i, l, Count(l))
		}
		b = anyClasses(r)
		c, _ := Classes(b, 0)
		class, _ := plainClasses(b, 0)
		for g, k := range class {
			if Of(c, g) != k {
				t.Fatal(i, c, g, k)
			}
		}
		for k := range 5 {
			s := With(c, k)
			sameSet(t, i, s, func(g int) bool { return Of(c, g) == k })
			want := those(func(g int) bool { return (class[g] == k) == (k != 0) })
			if s.Not != (k == 0) || !slices.Equal(s.Spans, plainSpans(want)) {
				t.Fatal(i, c, k, s)
			}
			for _, not := range []bool{s.Not, !s.Not} {
				s.Not = not
				told := Both(l, s)
				want := those(func(g int) bool { return index[g] >= 0 && Has(s, g) })
				if !slices.Equal(told, plainSpans(want)) {
					t.Fatal(i, l, s, told)
				}
			}
		}
	}
}

// P10.3: With, written out.
func TestWith(t *testing.T) {
	l := cl(5, 6, 2, 7, 7, 1, 8, 8, 2, 20, 21, 1, 22, 22, 3)
	for _, x := range []struct {
		l     []api.Class
		class int
		want  api.Set
	}{
		{l, 1, api.Set{Spans: sp(7, 7, 20, 21)}},
		{l, 2, api.Set{Spans: sp(5, 6, 8, 8)}},
		{l, 3, api.Set{Spans: sp(22, 22)}},
		{l, 4, api.Set{}},
		{l, -1, api.Set{}},
		{l, math.MinInt, api.Set{}},
		{l, math.MaxInt, api.Set{}},
		{l, 0, api.Set{Spans: sp(5, 8, 20, 22), Not: true}},
		{nil, 0, api.Set{Not: true}},
		{nil, 1, api.Set{}},
		{cl(0, 65535, 1), 0, api.Set{Spans: sp(0, 65535), Not: true}},
		{cl(0, 65535, 1), 1, api.Set{Spans: sp(0, 65535)}},
		{cl(0, 0, 1, 65535, 65535, 65535), 65535, api.Set{Spans: sp(65535, 65535)}},
	} {
		if s := With(x.l, x.class); s.Not != x.want.Not || !slices.Equal(s.Spans, x.want.Spans) {
			t.Error(x.l, x.class, s)
		}
	}
}

// P10.3: Both, written out.
func TestBoth(t *testing.T) {
	a := sp(4, 8, 20, 21)
	for _, x := range []struct {
		a, s, yes, not []api.Span
	}{
		{a, nil, nil, a},
		{nil, a, nil, nil},
		{nil, nil, nil, nil},
		{a, a, a, nil},
		{a, sp(0, 65535), a, nil},
		{a, sp(5, 6, 8, 8), sp(5, 6, 8, 8), sp(4, 4, 7, 7, 20, 21)},
		{a, sp(0, 4), sp(4, 4), sp(5, 8, 20, 21)},
		{a, sp(0, 3, 9, 19, 22, 65535), nil, a},
		{a, sp(8, 20), sp(8, 8, 20, 20), sp(4, 7, 21, 21)},
		{a, sp(4, 4, 6, 6, 8, 8, 21, 21), sp(4, 4, 6, 6, 8, 8, 21, 21), sp(5, 5, 7, 7, 20, 20)},
		{sp(0, 65535), sp(0, 0, 65535, 65535), sp(0, 0, 65535, 65535), sp(1, 65534)},
		{sp(0, 65535), nil, nil, sp(0, 65535)},
		{sp(0, 0, 65535, 65535), sp(0, 65534), sp(0, 0), sp(65535, 65535)},
		{sp(0, 0, 65535, 65535), sp(1, 65535), sp(65535, 65535), sp(0, 0)},
	} {
		if l := Both(x.a, api.Set{Spans: x.s}); !slices.Equal(l, x.yes) {
			t.Error(x.a, x.s, l)
		}
		if l := Both(x.a, api.Set{Spans: x.s, Not: true}); !slices.Equal(l, x.not) {
			t.Error(x.a, "but", x.s, l)
		}
	}
}

// P10.3: With and Both tell the fewest spans, rising, of lists of any order, too, whose ranges lie side by side or over one another, or have no glyphs.
func TestListsThatDoNotRise(t *testing.T) {
	r := rand.New(rand.NewSource(12))
	some := func() []api.Span {
		var out []api.Span
		for range r.Intn(6) {
			from := r.Intn(12)
			out = append(out, api.Span{From: from, To: from - 1 + r.Intn(4)})
		}
		return out
	}
	in := func(l []api.Span, g int) bool {
		return slices.ContainsFunc(l, func(s api.Span) bool { return s.From <= g && g <= s.To })
	}
	small := func(holds func(g int) bool) []api.Span {
		var out []int
		for g := -2; g < 20; g++ {
			if holds(g) {
				out = append(out, g)
			}
		}
		return plainSpans(out)
	}
	for range 20000 {
		a, b := some(), some()
		yes := Both(a, api.Set{Spans: b})
		if !slices.Equal(yes, small(func(g int) bool { return in(a, g) && in(b, g) })) {
			t.Fatal(a, b, yes)
		}
		not := Both(a, api.Set{Spans: b, Not: true})
		if !slices.Equal(not, small(func(g int) bool { return in(a, g) && !in(b, g) })) {
			t.Fatal(a, "but", b, not)
		}
		var l []api.Class
		for _, s := range a {
			l = append(l, api.Class{From: s.From, To: s.To, Class: 2})
		}
		for _, s := range b {
			l = append(l, api.Class{From: s.From, To: s.To, Class: r.Intn(2)})
		}
		for class := range 3 {
			s := With(l, class)
			want := small(func(g int) bool {
				return slices.ContainsFunc(l, func(c api.Class) bool {
					return c.From <= g && g <= c.To && (c.Class == class) == (class != 0)
				})
			})
			if s.Not != (class == 0) || !slices.Equal(s.Spans, want) {
				t.Fatal(l, class, s)
			}
		}
	}
}

// P10.3: numbers that are no glyphs' are told as the others are.
func TestBothOfGreatNumbers(t *testing.T) {
	const least, most = math.MinInt, math.MaxInt
	for _, x := range []struct {
		a, s, yes, not []api.Span
	}{
		{sp(least, most), nil, nil, sp(least, most)},
		{sp(least, most), sp(least, most), sp(least, most), nil},
		{sp(least, most), sp(3, 5), sp(3, 5), sp(least, 2, 6, most)},
		{sp(least, most), sp(least, 5), sp(least, 5), sp(6, most)},
		{sp(least, most), sp(5, most), sp(5, most), sp(least, 4)},
		{sp(least, least, most, most), sp(least, 0), sp(least, least), sp(most, most)},
		{sp(least, most, least, most), sp(most, most, least, least), sp(least, least, most, most), sp(least+1, most-1)},
		{sp(0, most, 5, most), sp(7, most, 9, most), sp(7, most), sp(0, 6)},
		{sp(70000, 70001), sp(70001, 80000), sp(70001, 70001), sp(70000, 70000)},
	} {
		if l := Both(x.a, api.Set{Spans: x.s}); !slices.Equal(l, x.yes) {
			t.Error(x.a, x.s, l)
		}
		if l := Both(x.a, api.Set{Spans: x.s, Not: true}); !slices.Equal(l, x.not) {
			t.Error(x.a, "but", x.s, l)
		}
	}
}

// No call panics, whatever lists it is given, and each ends.
func TestAnyLists(t *testing.T) {
	r := rand.New(rand.NewSource(13))
	n := func() int {
		return []int{math.MinInt, math.MinInt + 1, -1, 0, 1, 5, r.Intn(70000), 65535, math.MaxInt - 1, math.MaxInt}[r.Intn(10)]
	}
	for range 20000 {
		var a, b []api.Span
		var l []api.Class
		for range r.Intn(5) {
			a = append(a, api.Span{From: n(), To: n()})
			b = append(b, api.Span{From: n(), To: n()})
			l = append(l, api.Class{From: n(), To: n(), Class: n()})
		}
		Count(a)
		Index(a, n())
		Of(l, n())
		With(l, n())
		s := api.Set{Spans: b, Not: r.Intn(2) == 0}
		Has(s, n())
		Both(a, s)
	}
}

// room is a list with spare room behind it, and a call that says whether the list and its spare room are as they were.
func room[T comparable](l []T, spare T) ([]T, func() bool) {
	whole := append(slices.Clone(l), spare, spare, spare)
	kept := slices.Clone(whole)
	return whole[:len(l)], func() bool { return slices.Equal(whole, kept) }
}

// scribble writes all over a list, its spare room included.
func scribble[T any](l []T, x T) {
	l = l[:cap(l)]
	for i := range l {
		l[i] = x
	}
}

// What is handed in is neither changed nor kept, and what is answered is new memory.
func TestMemory(t *testing.T) {
	ink, blot := api.Span{From: -7, To: -7}, api.Class{From: -7, To: -7, Class: -7}
	for _, x := range [][]byte{table(1, 3, 5, 6, 9), table(2, 2, 5, 6, 0, 7, 9, 2), table(1, 4, 3, 1, 1, 0), table(1, 2, 6, 5), table(7)} {
		b, same := room(x, 7)
		l, ok := Cover(b, 0)
		c, good := Classes(b, 0)
		scribble(l, ink)
		scribble(c, blot)
		if !same() {
			t.Error("bytes", x)
		}
		again, still := Cover(b, 0)
		list, _ := plainCover(x, 0)
		if !ok {
			list = nil
		}
		if still != ok || !slices.Equal(again, plainSpans(list)) {
			t.Error("cover", x, again)
		}
		class, _ := plainClasses(x, 0)
		if !good {
			class = nil
		}
		if more, still := Classes(b, 0); still != good || !slices.Equal(more, plainRanges(class)) {
			t.Error("classes", x, more)
		}
	}
	for _, x := range [][]api.Span{nil, sp(5, 6), sp(5, 6, 8, 9), sp(8, 9, 5, 6, 7, 7)} {
		for _, y := range [][]api.Span{nil, sp(0, 9), sp(6, 6, 9, 20), sp(9, 20, 6, 6)} {
			for _, not := range []bool{false, true} {
				a, same := room(x, ink)
				s, alike := room(y, ink)
				l := Both(a, api.Set{Spans: s, Not: not})
				want := slices.Clone(l)
				scribble(l, ink)
				if !same() || !alike() || !slices.Equal(Both(x, api.Set{Spans: y, Not: not}), want) {
					t.Error(x, y, not)
				}
			}
		}
	}
	for _, x := range [][]api.Class{nil, cl(5, 6, 1), cl(5, 6, 1, 7, 8, 2), cl(7, 8, 2, 5, 6, 1)} {
		for class := range 3 {
			l, same := room(x, blot)
			s := With(l, class)
			want := slices.Clone(s.Spans)
			scribble(s.Spans, ink)
			if !same() || !slices.Equal(With(x, class).Spans, want) {
				t.Error(x, class)
			}
			if Of(l, 5); !same() {
				t.Error("of", x)
			}
		}
	}
	l, same := room(sp(5, 6, 8, 9), ink)
	if Count(l) != 4 || Index(l, 9) != 3 || !Has(api.Set{Spans: l}, 8) || !same() {
		t.Error("asked")
	}
}

// The chapter's example.
func TestExample(t *testing.T) {
	l, ok := Cover([]byte{0x00, 0x01, 0x00, 0x02, 0x00, 0x05, 0x00, 0x06}, 0)
	if !ok || !slices.Equal(l, sp(5, 6)) || Index(l, 6) != 1 {
		t.Error(l, ok)
	}
}
