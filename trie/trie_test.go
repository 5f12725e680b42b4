package trie

import (
	"math"
	"math/rand"
	"slices"
	"testing"

	"reedpen/api"
	"reedpen/span"
)

// rising is n ranges of one code each, with a code between any two.
func rising(n int) []api.Range {
	out := make([]api.Range, n)
	for i := range out {
		out[i] = api.Range{From: int32(2 * i), To: int32(2 * i), Val: i % 256}
	}
	return out
}

// listed is a list of ranges, and how many blocks are unlike by it.
type listed struct {
	name   string
	ranges []api.Range
	blocks int
}

// rightLists are lists that are right for 255; their blocks were counted by hand.
func rightLists() []listed {
	return []listed{
		{"none", nil, 1},
		{"empty", []api.Range{}, 1},
		{"the example", []api.Range{{From: 65, To: 90, Val: 3}}, 2},
		{"value 0", []api.Range{{From: 65, To: 90, Val: 0}}, 1},
		{"value 0 everywhere", []api.Range{{From: 0, To: api.MaxCode, Val: 0}}, 1},
		{"value 255", []api.Range{{From: 65, To: 90, Val: 255}}, 2},
		{"everywhere", []api.Range{{From: 0, To: api.MaxCode, Val: 255}}, 2},
		{"the first code", []api.Range{{From: 0, To: 0, Val: 1}}, 2},
		{"the last code", []api.Range{{From: api.MaxCode, To: api.MaxCode, Val: 255}}, 2},
		{"just one block", []api.Range{{From: 128, To: 255, Val: 9}}, 2},
		{"one code less in front", []api.Range{{From: 129, To: 255, Val: 9}}, 2},
		{"one code less behind", []api.Range{{From: 128, To: 254, Val: 9}}, 2},
		{"one code more in front", []api.Range{{From: 127, To: 255, Val: 9}}, 3},
		{"one code more behind", []api.Range{{From: 128, To: 256, Val: 9}}, 3},
		{"one code more on both sides", []api.Range{{From: 127, To: 256, Val: 9}}, 4},
		{"two blocks alike", []api.Range{{From: 0, To: 3, Val: 1}, {From: 128, To: 131, Val: 1}}, 2},
		{"two blocks of other values", []api.Range{{From: 0, To: 3, Val: 1}, {From: 128, To: 131, Val: 2}}, 3},
		{"two blocks, one step off", []api.Range{{From: 0, To: 3, Val: 1}, {From: 129, To: 132, Val: 1}}, 3},
		{"alike far from each other", []api.Range{{From: 5, To: 6, Val: 1}, {From: 0x10FF85, To: 0x10FF86, Val: 1}}, 2},
		{"last of each block", []api.Range{{From: 127, To: 127, Val: 4}, {From: 255, To: 255, Val: 4}, {From: 383, To: 383, Val: 4}}, 2},
		{"many in one block", []api.Range{{From: 128, To: 130, Val: 1}, {From: 131, To: 131, Val: 0}, {From: 132, To: 140, Val: 2}, {From: 255, To: 255, Val: 3}}, 2},
		{"over many blocks", []api.Range{{From: 100, To: 100000, Val: 8}}, 4},
		{"one behind the other over many", []api.Range{{From: 0, To: 0x7FFF, Val: 1}, {From: 0x8000, To: 0xFFFF, Val: 2}, {From: 0x10000, To: api.MaxCode, Val: 3}}, 4},
		{"surrogates alone", []api.Range{{From: 0xD800, To: 0xDFFF, Val: 7}}, 1},
		{"across surrogates", []api.Range{{From: 0xD7FF, To: 0xE000, Val: 7}}, 3},
		{"within surrogates", []api.Range{{From: 0xD900, To: 0xD900, Val: 7}, {From: 0xDFFF, To: 0xDFFF, Val: 8}}, 1},
		{"all but surrogates", []api.Range{{From: 0, To: 0xD7FF, Val: 7}, {From: 0xE000, To: api.MaxCode, Val: 7}}, 2},
		{"5000 apart", rising(5000), 6}, // values come again every four blocks; the last block has few; the rest has none,
	}
}

// wrongLists are lists that aren't right for 255.
func wrongLists() map[string][]api.Range {
	return map[string][]api.Range{
		"value 256":        {{From: 1, To: 2, Val: 256}},
		"value 256 alone":  {{Val: 256}},
		"second value 256": {{From: 1, To: 2, Val: 255}, {From: 4, To: 4, Val: 256}},
		"greatest value":   {{From: 1, To: 2, Val: math.MaxInt}},
		"value 2^32":       {{From: 1, To: 2, Val: 1 << 32}},
		"value below 0":    {{From: 1, To: 2, Val: -1}},
		"least value":      {{From: 1, To: 2, Val: math.MinInt}},
		"from below 0":     {{From: -1, To: 2, Val: 1}},
		"least from":       {{From: math.MinInt32, To: 2, Val: 1}},
		"to below from":    {{From: 3, To: 2, Val: 1}},
		"to above MaxCode": {{From: 3, To: api.MaxCode + 1, Val: 1}},
		"greatest to":      {{From: 3, To: math.MaxInt32, Val: 1}},
		"one code of both": {{From: 3, To: 5, Val: 1}, {From: 5, To: 9, Val: 1}},
		"falling":          {{From: 13, To: 15, Val: 1}, {From: 5, To: 9, Val: 1}},
		"5001":             rising(5001),
		"5001 of nothing":  make([]api.Range, 5001),
	}
}

// hasByWords is what a code has by the chapter's words.
func hasByWords(l []api.Range, c int32) int {
	if c < 0 || c > 1114111 || c >= 0xD800 && c <= 0xDFFF {
		return 0
	}
	for _, r := range l {
		if r.From <= c && c <= r.To {
			return r.Val
		}
	}
	return 0
}

// edgeCodes are codes at which something ends, with their neighbours, the least and the greatest numbers among them.
func edgeCodes() []int32 {
	out := []int32{math.MinInt32, math.MinInt32 + 1, -0xD800, -128, -127, math.MaxInt32 - 1, math.MaxInt32}
	for _, c := range []int32{0, 128, 256, 384, 0x8000, 0xD800, 0xD880, 0xDF80, 0xE000, 0x10000, 0x10FF80, api.MaxCode + 1, api.MaxCode + 129} {
		out = append(out, c-2, c-1, c, c+1)
	}
	return out
}

// codesNear are edgeCodes and the codes at the ends of ranges, with their neighbours.
func codesNear(l []api.Range) []int32 {
	out := edgeCodes()
	for _, r := range l {
		out = append(out, r.From-1, r.From, r.From+1, r.From/2+r.To/2, r.To-1, r.To, r.To+1)
	}
	return out
}

// unlikeByWords holds each block against all that were kept, code by code.
func unlikeByWords(l []api.Range) int {
	all := make([]byte, api.MaxCode+1)
	for _, r := range l {
		for c := r.From; c <= r.To; c++ {
			all[c] = byte(hasByWords([]api.Range{r}, c))
		}
	}
	var kept [][]byte
	for b := range slices.Chunk(all, 128) {
		if !slices.ContainsFunc(kept, func(k []byte) bool { return slices.Equal(k, b) }) {
			kept = append(kept, b)
		}
	}
	return len(kept)
}

// someRanges is a list that is right, of ranges that are apt to begin and end about multiples of 128.
func someRanges(rnd *rand.Rand) []api.Range {
	var out []api.Range
	at := int32(rnd.Intn(200))
	for range rnd.Intn(14) {
		to := at + int32(rnd.Intn(5))
		switch rnd.Intn(4) {
		case 0:
			to = at/128*128 + 127 + int32(rnd.Intn(3)) // about the end of its block
		case 1:
			to = at + int32(rnd.Intn(40000))
		}
		out = append(out, api.Range{From: at, To: to, Val: []int{0, 1, 2, 255}[rnd.Intn(4)]})
		at = to + 1 + int32(rnd.Intn(3)*rnd.Intn(100))
	}
	return out
}

// P3.1

func TestNewOfRangesThatAreNotRight(t *testing.T) {
	for name, l := range wrongLists() {
		if New(l) != nil {
			t.Errorf("%s: a trie", name)
		}
	}
}

func TestNewOfRangesThatAreRight(t *testing.T) {
	for _, x := range rightLists() {
		if New(x.ranges) == nil {
			t.Errorf("%s: no trie", x.name)
		}
	}
}

func TestGetOfNamedCodes(t *testing.T) {
	x := New([]api.Range{{From: 0, To: 0, Val: 1}, {From: 65, To: 90, Val: 3}, {From: 127, To: 256, Val: 0}, {From: 257, To: 0xE000, Val: 255}, {From: api.MaxCode, To: api.MaxCode, Val: 254}})
	for c, want := range map[int32]int{
		0: 1, 1: 0, 64: 0, 65: 3, 66: 3, 90: 3, 91: 0, 127: 0, 128: 0, 256: 0, 257: 255, 383: 255, 384: 255,
		0xD7FF: 255, 0xD800: 0, 0xDBFF: 0, 0xDC00: 0, 0xDFFF: 0, 0xE000: 255, 0xE001: 0,
		api.MaxCode - 1: 0, api.MaxCode: 254, api.MaxCode + 1: 0, -1: 0, -65: 0, math.MinInt32: 0, math.MaxInt32: 0,
	} {
		if got := x.Get(c); got != want {
			t.Errorf("Get(%#x) = %d, want %d", c, got, want)
		}
	}
}

func TestGetByWords(t *testing.T) {
	for _, x := range rightLists() {
		tr := New(x.ranges)
		for _, c := range codesNear(x.ranges) {
			if got, want := tr.Get(c), hasByWords(x.ranges, c); got != want {
				t.Errorf("%s: Get(%#x) = %d, want %d", x.name, c, got, want)
			}
		}
	}
}

func TestGetOfEveryValue(t *testing.T) {
	for v := range 256 {
		x := New([]api.Range{{From: 1000, To: 2000, Val: v}})
		if x.Get(1000) != v || x.Get(1500) != v || x.Get(2000) != v || x.Get(999) != 0 || x.Get(2001) != 0 {
			t.Errorf("value %d", v)
		}
	}
}

// P3.2

func TestBlocksOfNamedLists(t *testing.T) {
	for _, x := range rightLists() {
		if got := New(x.ranges).Blocks(); got != x.blocks {
			t.Errorf("%s: %d blocks, want %d", x.name, got, x.blocks)
		}
	}
}

func TestBlocksByWords(t *testing.T) {
	rnd := rand.New(rand.NewSource(3))
	for range 60 {
		l := someRanges(rnd)
		if got, want := New(l).Blocks(), unlikeByWords(l); got != want {
			t.Fatalf("%v: %d blocks, want %d", l, got, want)
		}
	}
}

func TestBlocksManyUnlike(t *testing.T) {
	var l []api.Range
	for i := range 5000 { // each block has one code, told from the others by its place and its value
		at := int32(i*128 + i%128)
		if at >= 0xD800 {
			at += 0x800
		}
		l = append(l, api.Range{From: at, To: at, Val: 1 + i/128})
	}
	x := New(l)
	if got := x.Blocks(); got != 5001 {
		t.Errorf("%d blocks", got)
	}
	for _, r := range l {
		if got := x.Get(r.From); got != r.Val {
			t.Fatalf("Get(%#x) = %d, want %d", r.From, got, r.Val)
		}
	}
}

func TestBuiltByGetOrBlocksAlone(t *testing.T) {
	for _, x := range rightLists() {
		tr := New(x.ranges)
		if tr.Built() || tr.Asked() != 0 || tr.Built() {
			t.Errorf("%s: built early", x.name)
		}
		tr.Blocks()
		if !tr.Built() {
			t.Errorf("%s: not built by Blocks", x.name)
		}
		for _, c := range []int32{65, 0, 0xD800, -1, api.MaxCode, api.MaxCode + 1, math.MinInt32, math.MaxInt32} {
			one := New(x.ranges)
			one.Get(c)
			if !one.Built() || !one.Built() {
				t.Errorf("%s: not built by Get(%#x)", x.name, c)
			}
		}
	}
}

func TestBuiltIsOfOneTrie(t *testing.T) {
	l := []api.Range{{From: 65, To: 90, Val: 3}}
	a, b := New(l), New(l)
	a.Get(65)
	if b.Built() || b.Asked() != 0 {
		t.Error("what is asked of one trie turns another")
	}
	b.Blocks()
	if a.Asked() != 1 || b.Asked() != 0 {
		t.Error("asked:", a.Asked(), b.Asked())
	}
}

func TestAskedCountsEveryGet(t *testing.T) {
	x := New([]api.Range{{From: 65, To: 90, Val: 3}})
	n := 0
	for range 3 {
		for _, c := range edgeCodes() { // codes that are none count too
			x.Get(c)
			n++
			x.Blocks()
			x.Built()
			if x.Asked() != n || x.Asked() != n {
				t.Fatalf("asked %d times, want %d", x.Asked(), n)
			}
		}
	}
}

func TestNilTrie(t *testing.T) {
	var x *Trie
	for _, c := range edgeCodes() {
		if x.Get(c) != 0 {
			t.Errorf("Get(%#x)", c)
		}
	}
	if x.Blocks() != 0 || x.Asked() != 0 || x.Built() {
		t.Error("a nil trie:", x.Blocks(), x.Asked(), x.Built())
	}
}

func TestExample(t *testing.T) {
	x := New([]api.Range{{From: 65, To: 90, Val: 3}})
	if x.Get(66) != 3 || x.Get(64) != 0 || x.Blocks() != 2 || x.Asked() != 2 {
		t.Error("the chapter's example:", x.Blocks(), x.Asked())
	}
}

// P3.3

func TestEveryCodeHasWhatItsRangesFind(t *testing.T) {
	lists := [][]api.Range{
		nil,
		{{From: 0, To: api.MaxCode, Val: 255}},
		{{From: 0, To: 0x2FFF, Val: 1}, {From: 0x3001, To: 0xDC00, Val: 2}, {From: 0xDC01, To: 0x10001, Val: 3}, {From: 0x1FF7F, To: 0x2FF80, Val: 255}},
	}
	for _, l := range lists {
		x := New(l)
		for c := int32(-300); c <= api.MaxCode+300; c++ {
			want := 0
			if span.Valid(c) {
				want, _ = span.Find(l, c)
			}
			if got := x.Get(c); got != want {
				t.Fatalf("Get(%#x) = %d, want %d", c, got, want)
			}
		}
	}
}

func TestMadeUpRangesFind(t *testing.T) {
	rnd := rand.New(rand.NewSource(5))
	for range 300 {
		l := someRanges(rnd)
		x := New(l)
		for _, c := range codesNear(l) {
			if got, want := x.Get(c), hasByWords(l, c); got != want {
				t.Fatalf("%v: Get(%#x) = %d, want %d", l, c, got, want)
			}
		}
	}
}

func TestAskingTurnsNothing(t *testing.T) {
	for _, x := range rightLists() {
		tr := New(x.ranges)
		codes := codesNear(x.ranges)
		for round := range 3 {
			for _, c := range codes {
				if got, want := tr.Get(c), hasByWords(x.ranges, c); got != want {
					t.Fatalf("%s, round %d: Get(%#x) = %d, want %d", x.name, round, c, got, want)
				}
			}
			if tr.Blocks() != x.blocks || !tr.Built() || tr.Asked() != (round+1)*len(codes) {
				t.Fatalf("%s, round %d: %d blocks, asked %d times", x.name, round, tr.Blocks(), tr.Asked())
			}
			slices.Reverse(codes)
		}
	}
}

func TestBlocksBeforeAndBehindGet(t *testing.T) {
	l := []api.Range{{From: 100, To: 300, Val: 4}}
	a, b := New(l), New(l)
	a.Blocks()
	for _, c := range codesNear(l) {
		if a.Get(c) != b.Get(c) {
			t.Errorf("Get(%#x) hangs on who built it", c)
		}
	}
	if a.Blocks() != b.Blocks() {
		t.Error("blocks hang on who built it")
	}
}

// What is handed in

func TestWhatIsHandedInIsNeitherChangedNorKept(t *testing.T) {
	for _, x := range rightLists() {
		given := append(slices.Grow(slices.Clone(x.ranges), 3), api.Range{From: 1, To: 2, Val: 77})
		was := slices.Clone(given)
		given = given[:len(given)-1]
		built, late := New(given), New(given)
		built.Blocks()
		if !slices.Equal(given[:len(given)+1], was) {
			t.Fatalf("%s: changed", x.name)
		}
		for i := range given[:len(given)+1] {
			given[:len(given)+1][i] = api.Range{From: 7, To: 100000, Val: 99}
		}
		for _, c := range codesNear(x.ranges) {
			if want := hasByWords(x.ranges, c); built.Get(c) != want || late.Get(c) != want {
				t.Fatalf("%s: Get(%#x) was turned from behind", x.name, c)
			}
		}
		if built.Blocks() != x.blocks || late.Blocks() != x.blocks {
			t.Fatalf("%s: blocks were turned from behind", x.name)
		}
		for i, r := range given[:len(given)+1] {
			if r != (api.Range{From: 7, To: 100000, Val: 99}) {
				t.Fatalf("%s: the range %d was changed by asking", x.name, i)
			}
		}
	}
}
