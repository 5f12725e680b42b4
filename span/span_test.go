package span

import (
	"math"
	"math/rand"
	"slices"
	"testing"

	"reedpen/api"
)

// greatest are greatest values, the least and the greatest numbers among them.
func greatest() []int {
	return []int{math.MinInt, math.MinInt + 1, -1 << 31, -2, -1, 0, 1, 2, 3, 255, 1<<31 - 1, 1 << 32, math.MaxInt - 1, math.MaxInt}
}

// edgeCodes are codes at which something ends, with their neighbours, the least and the greatest numbers among them.
func edgeCodes() []int32 {
	out := []int32{math.MinInt32, math.MinInt32 + 1, math.MaxInt32 - 1, math.MaxInt32}
	for _, c := range []int32{0, 5, 10, 20, 127, 255, 0xD800, 0xDFFF, 0xE000, 0xFFFF, 0x10000, api.MaxCode} {
		for near := int32(-2); near <= 2; near++ {
			out = append(out, c+near)
		}
	}
	return out
}

// rising is n ranges of one code each, with a code between any two.
func rising(n int) []api.Range {
	out := make([]api.Range, n)
	for i := range out {
		out[i] = api.Range{From: int32(2 * i), To: int32(2 * i), Val: i % 7}
	}
	return out
}

// touching is n ranges of one code each, with none between them; all have one value.
func touching(n int) []api.Range {
	out := make([]api.Range, n)
	for i := range out {
		out[i] = api.Range{From: int32(i), To: int32(i), Val: 3}
	}
	return out
}

// rightLists are lists that are right for whatever value that is great enough.
func rightLists() map[string][]api.Range {
	return map[string][]api.Range{
		"none":              nil,
		"empty":             {},
		"one code":          {{From: 0, To: 0, Val: 0}},
		"the last code":     {{From: api.MaxCode, To: api.MaxCode, Val: 2}},
		"every code":        {{From: 0, To: api.MaxCode, Val: 1}},
		"the example":       {{From: 0, To: 4, Val: 1}, {From: 5, To: 9, Val: 1}, {From: 20, To: 20, Val: 2}},
		"touching, another": {{From: 0, To: 4, Val: 1}, {From: 5, To: 9, Val: 2}, {From: 10, To: 10, Val: 1}},
		"one between":       {{From: 0, To: 4, Val: 1}, {From: 6, To: 9, Val: 1}},
		"three to join":     {{From: 3, To: 4, Val: 0}, {From: 5, To: 5, Val: 0}, {From: 6, To: 9, Val: 0}},
		"surrogates":        {{From: 0xD7F0, To: 0xD7FF, Val: 1}, {From: 0xD800, To: 0xDFFF, Val: 1}, {From: 0xE000, To: 0xE00F, Val: 1}},
		"but surrogates":    {{From: 0xD7F0, To: 0xD7FF, Val: 1}, {From: 0xE000, To: 0xE00F, Val: 1}},
		"two halves":        {{From: 0, To: 0xFFFF, Val: 2}, {From: 0x10000, To: api.MaxCode, Val: 2}},
		"greatest value":    {{From: 7, To: 8, Val: math.MaxInt}, {From: 9, To: 9, Val: math.MaxInt}, {From: 10, To: 11, Val: math.MaxInt - 1}},
		"5000 apart":        rising(5000),
		"5000 in a row":     touching(5000),
	}
}

// wrongLists are lists that are right for no value.
func wrongLists() map[string][]api.Range {
	return map[string][]api.Range{
		"from below 0":      {{From: -1, To: 3, Val: 1}},
		"least from":        {{From: math.MinInt32, To: 3, Val: 1}},
		"both below 0":      {{From: -5, To: -3, Val: 1}},
		"from above to":     {{From: 5, To: 4, Val: 1}},
		"greatest from":     {{From: math.MaxInt32, To: 4, Val: 1}},
		"to below 0":        {{From: 0, To: -1, Val: 1}},
		"to too great":      {{From: 0, To: api.MaxCode + 1, Val: 1}},
		"greatest to":       {{From: 0, To: math.MaxInt32, Val: 1}},
		"all too great":     {{From: api.MaxCode + 1, To: api.MaxCode + 1, Val: 1}},
		"extremes":          {{From: math.MinInt32, To: math.MaxInt32, Val: 1}},
		"value below 0":     {{From: 0, To: 3, Val: -1}},
		"least value":       {{From: 0, To: 3, Val: math.MinInt}},
		"second value":      {{From: 0, To: 3, Val: 1}, {From: 9, To: 9, Val: -1}},
		"same code":         {{From: 0, To: 4, Val: 1}, {From: 4, To: 5, Val: 1}},
		"twice the same":    {{From: 0, To: 4, Val: 1}, {From: 0, To: 4, Val: 1}},
		"one in another":    {{From: 0, To: 9, Val: 1}, {From: 2, To: 3, Val: 1}},
		"falling":           {{From: 10, To: 12, Val: 1}, {From: 0, To: 4, Val: 1}},
		"falling, touching": {{From: 5, To: 9, Val: 1}, {From: 0, To: 4, Val: 1}},
		"third falls":       {{From: 0, To: 1, Val: 1}, {From: 9, To: 9, Val: 1}, {From: 4, To: 4, Val: 1}},
		"last is wrong":     {{From: 0, To: 1, Val: 1}, {From: 9, To: 8, Val: 1}},
		"5001 apart":        rising(5001),
		"5001 in a row":     touching(5001),
		"5001 of nothing":   make([]api.Range, 5001),
	}
}

// rightByWords says what the chapter's words say of ranges, one condition at a time.
func rightByWords(l []api.Range, most int) bool {
	few := len(l) <= 5000
	each := !slices.ContainsFunc(l, func(r api.Range) bool {
		return !(0 <= r.From && r.From <= r.To && r.To <= 1114111 && 0 <= r.Val && r.Val <= most)
	})
	rise := true
	for i := 1; i < len(l); i++ {
		rise = rise && l[i].From > l[i-1].To
	}
	return few && each && rise
}

// findByWalking looks at every range.
func findByWalking(l []api.Range, c int32) (int, bool) {
	for _, r := range l {
		if r.From <= c && c <= r.To {
			return r.Val, true
		}
	}
	return 0, false
}

// codesNear are the codes at the ends of ranges, with their neighbours, and those of edgeCodes.
func codesNear(l []api.Range) []int32 {
	out := edgeCodes()
	for _, r := range l {
		out = append(out, r.From-1, r.From, r.From+1, r.From/2+r.To/2, r.To-1, r.To, r.To+1)
	}
	return out
}

// someRanges is a list that is right, mostly with ranges that touch, of few values.
func someRanges(rnd *rand.Rand) []api.Range {
	var out []api.Range
	at := int32(rnd.Intn(3))
	for range rnd.Intn(12) {
		to := at + int32(rnd.Intn(4))
		out = append(out, api.Range{From: at, To: to, Val: rnd.Intn(2)})
		at = to + 1 + int32(rnd.Intn(2))
	}
	return out
}

// P2.1

func TestValidNamed(t *testing.T) {
	for c, want := range map[int32]bool{
		0: true, 1: true, 65: true, 0x3042: true, 0xD7FF: true, 0xD800: false, 0xD801: false, 0xDB80: false, 0xDFFE: false, 0xDFFF: false,
		0xE000: true, 0xFFFF: true, 0x10000: true, 0x10D800: true, 0x10FFFE: true, 0x10FFFF: true,
		0x110000: false, 0x110001: false, -1: false, -0xD800: false, math.MaxInt32: false, math.MinInt32: false,
	} {
		if got := Valid(c); got != want {
			t.Errorf("Valid(%#x) = %v", c, got)
		}
	}
}

func TestValidCount(t *testing.T) {
	n := 0
	for c := int32(-1000); c <= 0x120000; c++ {
		if Valid(c) {
			n++
		}
	}
	if n != 1114112-2048 {
		t.Errorf("%d codes are valid", n)
	}
}

func TestRightLists(t *testing.T) {
	for name, l := range rightLists() {
		if !Right(l, math.MaxInt) {
			t.Errorf("%s: not right", name)
		}
	}
	for name, l := range wrongLists() {
		for _, most := range greatest() {
			if Right(l, most) {
				t.Errorf("%s: right for %d", name, most)
			}
		}
	}
}

func TestRightGreatest(t *testing.T) {
	for _, val := range []int{0, 1, 2, 255, 1<<31 - 1, math.MaxInt - 1, math.MaxInt} {
		l := []api.Range{{From: 0, To: 3, Val: 0}, {From: 4, To: 4, Val: val}}
		for _, most := range greatest() {
			if got := Right(l, most); got != (val <= most) {
				t.Errorf("value %d, greatest %d: %v", val, most, got)
			}
		}
		if !Right(l, val) || Right(l, val-1) {
			t.Errorf("value %d: at its edge", val)
		}
	}
}

func TestRightNone(t *testing.T) {
	for _, most := range greatest() {
		if !Right(nil, most) || !Right([]api.Range{}, most) {
			t.Errorf("no ranges aren't right for %d", most)
		}
	}
}

func TestRightGrid(t *testing.T) {
	ends := []int32{math.MinInt32, -1, 0, 1, 2, api.MaxCode - 1, api.MaxCode, api.MaxCode + 1, math.MaxInt32}
	for _, a := range ends {
		for _, b := range ends {
			for _, c := range ends {
				for _, d := range ends {
					for _, val := range []int{math.MinInt, -1, 0, 1, 2, math.MaxInt} {
						l := []api.Range{{From: a, To: b, Val: 1}, {From: c, To: d, Val: val}}
						if got, want := Right(l, 1), rightByWords(l, 1); got != want {
							t.Fatalf("Right(%v, 1) = %v", l, got)
						}
					}
				}
			}
		}
	}
}

// P2.2

func TestFindNamed(t *testing.T) {
	l := rightLists()["the example"]
	for c, want := range map[int32]int{0: 1, 4: 1, 5: 1, 7: 1, 9: 1, 20: 2} {
		if n, ok := Find(l, c); n != want || !ok {
			t.Errorf("Find %d: %d, %v", c, n, ok)
		}
	}
	for _, c := range []int32{math.MinInt32, -1, 10, 19, 21, api.MaxCode, api.MaxCode + 1, math.MaxInt32} {
		if n, ok := Find(l, c); n != 0 || ok {
			t.Errorf("Find %d: %d, %v", c, n, ok)
		}
	}
}

func TestFindLists(t *testing.T) {
	for name, l := range rightLists() {
		codes := codesNear(l)
		if len(l) == 5000 { // each call looks at all of them: TestFindAmong5000 asks for what is left out here
			codes = edgeCodes()
		}
		for _, c := range codes {
			n, ok := Find(l, c)
			if want, has := findByWalking(l, c); n != want || ok != has {
				t.Fatalf("%s: Find %d: %d, %v, want %d, %v", name, c, n, ok, want, has)
			}
		}
	}
}

func TestFindAmong5000(t *testing.T) {
	l := rising(5000)
	for _, i := range []int{0, 1, 2, 2498, 2499, 2500, 2501, 4997, 4998, 4999} {
		if n, ok := Find(l, int32(2*i)); n != i%7 || !ok {
			t.Errorf("range %d: %d, %v", i, n, ok)
		}
		if n, ok := Find(l, int32(2*i+1)); n != 0 || ok {
			t.Errorf("behind range %d: %d, %v", i, n, ok)
		}
	}
}

func TestFindWrong(t *testing.T) {
	for name, l := range wrongLists() {
		codes := edgeCodes()
		for _, r := range l[:min(3, len(l))] {
			codes = append(codes, r.From, r.To)
		}
		for _, c := range codes {
			if n, ok := Find(l, c); n != 0 || ok {
				t.Errorf("%s: Find %d: %d, %v", name, c, n, ok)
			}
		}
	}
}

func TestFindSome(t *testing.T) {
	rnd := rand.New(rand.NewSource(2))
	for range 500 {
		l := someRanges(rnd)
		for c := int32(-2); c < 70; c++ {
			n, ok := Find(l, c)
			if want, has := findByWalking(l, c); n != want || ok != has {
				t.Fatalf("%v: Find %d: %d, %v, want %d, %v", l, c, n, ok, want, has)
			}
		}
	}
}

// P2.3

func TestJoinNamed(t *testing.T) {
	for name, want := range map[string][]api.Range{
		"none":              nil,
		"empty":             nil,
		"one code":          {{From: 0, To: 0, Val: 0}},
		"every code":        {{From: 0, To: api.MaxCode, Val: 1}},
		"the example":       {{From: 0, To: 9, Val: 1}, {From: 20, To: 20, Val: 2}},
		"touching, another": {{From: 0, To: 4, Val: 1}, {From: 5, To: 9, Val: 2}, {From: 10, To: 10, Val: 1}},
		"one between":       {{From: 0, To: 4, Val: 1}, {From: 6, To: 9, Val: 1}},
		"three to join":     {{From: 3, To: 9, Val: 0}},
		"surrogates":        {{From: 0xD7F0, To: 0xE00F, Val: 1}},
		"but surrogates":    {{From: 0xD7F0, To: 0xD7FF, Val: 1}, {From: 0xE000, To: 0xE00F, Val: 1}},
		"two halves":        {{From: 0, To: api.MaxCode, Val: 2}},
		"greatest value":    {{From: 7, To: 9, Val: math.MaxInt}, {From: 10, To: 11, Val: math.MaxInt - 1}},
		"5000 apart":        rising(5000),
		"5000 in a row":     {{From: 0, To: 4999, Val: 3}},
	} {
		if got := Join(rightLists()[name]); !slices.Equal(got, want) {
			t.Errorf("%s: %v", name, got)
		}
	}
}

// TestJoinFewest counts the places where what is found turns: no list of ranges can have fewer ranges than those that begin there.
func TestJoinFewest(t *testing.T) {
	rnd := rand.New(rand.NewSource(23))
	for range 500 {
		l := someRanges(rnd)
		joined := Join(l)
		need, was, had := 0, 0, false
		for c := int32(-1); c < 70; c++ {
			want, has := findByWalking(l, c)
			if has && (!had || want != was) {
				need++
			}
			was, had = want, has
			if got, ok := findByWalking(joined, c); got != want || ok != has {
				t.Fatalf("%v joined %v: %d finds %d, %v", l, joined, c, got, ok)
			}
		}
		if len(joined) != need {
			t.Fatalf("%v joined %v: %d would do", l, joined, need)
		}
	}
}

func TestJoinWrong(t *testing.T) {
	for name, l := range wrongLists() {
		if got := Join(l); len(got) != 0 {
			t.Errorf("%s: %v", name, got)
		}
	}
}

func TestCountNamed(t *testing.T) {
	for name, want := range map[string]int{
		"none": 0, "empty": 0, "one code": 1, "the last code": 1, "every code": 1114112, "the example": 11,
		"touching, another": 11, "one between": 9, "three to join": 7, "surrogates": 16 + 2048 + 16, "but surrogates": 32,
		"two halves": 1114112, "greatest value": 5, "5000 apart": 5000, "5000 in a row": 5000,
	} {
		if got := Count(rightLists()[name]); got != want {
			t.Errorf("%s: %d, want %d", name, got, want)
		}
	}
}

func TestCountWrong(t *testing.T) {
	for name, l := range wrongLists() {
		if got := Count(l); got != 0 {
			t.Errorf("%s: %d", name, got)
		}
	}
}

// P2.4

func TestJoinedAgain(t *testing.T) {
	lists := rightLists()
	for name, l := range wrongLists() {
		lists["wrong: "+name] = l
	}
	for name, l := range lists {
		joined := Join(l)
		if !Right(joined, math.MaxInt) {
			t.Errorf("%s: joined, it isn't right", name)
		}
		if again := Join(joined); !slices.Equal(again, joined) {
			t.Errorf("%s: joined again: %v", name, again)
		}
		if Count(joined) != Count(l) {
			t.Errorf("%s: joined, it has %d codes", name, Count(joined))
		}
	}
}

// TestJoinedRightForTheSame holds the values too: what is right for a greatest value stays so.
func TestJoinedRightForTheSame(t *testing.T) {
	for name, l := range rightLists() {
		for _, most := range greatest() {
			if Right(l, most) != Right(Join(l), most) {
				t.Errorf("%s: for %d", name, most)
			}
		}
	}
}

func TestFoundByNone(t *testing.T) {
	rnd := rand.New(rand.NewSource(24))
	for range 200 {
		l := someRanges(rnd)
		has := make(map[int32]bool)
		for _, r := range l {
			for c := r.From; c <= r.To; c++ {
				has[c] = true
			}
		}
		for _, list := range [][]api.Range{l, Join(l)} {
			for c := int32(-3); c < 70; c++ {
				if n, ok := Find(list, c); ok != has[c] || !ok && n != 0 {
					t.Fatalf("%v: Find %d: %d, %v", list, c, n, ok)
				}
			}
		}
		if Count(l) != len(has) {
			t.Fatalf("%v: %d codes, want %d", l, Count(l), len(has))
		}
	}
}

// What is handed in, and what is answered.

// roomy is a copy of a list with spare room, which is filled with what must stay.
func roomy(l []api.Range) []api.Range {
	out := make([]api.Range, len(l)+5)
	copy(out, l)
	for i := len(l); i < len(out); i++ {
		out[i] = api.Range{From: -9, To: -9, Val: -9}
	}
	return out[:len(l)]
}

func TestNothingChanged(t *testing.T) {
	for _, lists := range []map[string][]api.Range{rightLists(), wrongLists()} {
		for name, l := range lists {
			handed := roomy(l)
			before := slices.Clone(handed[:cap(handed)])
			Right(handed, 1)
			Find(handed, 7)
			Join(handed)
			Count(handed)
			if !slices.Equal(handed[:cap(handed)], before) {
				t.Errorf("%s: changed", name)
			}
		}
	}
}

func TestJoinIsNewMemory(t *testing.T) {
	for name, l := range rightLists() {
		handed := roomy(l)
		joined := Join(handed)
		want := slices.Clone(joined)
		before := slices.Clone(handed[:cap(handed)])
		all := joined[:cap(joined)]
		for i := range all {
			all[i] = api.Range{From: 1, To: 2, Val: 77}
		}
		if !slices.Equal(handed[:cap(handed)], before) {
			t.Errorf("%s: the answer shares what was handed in", name)
		}
		if again := Join(handed); !slices.Equal(again, want) {
			t.Errorf("%s: the answer is kept", name)
		}
	}
}
