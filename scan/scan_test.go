package scan

import (
	"fmt"
	"math"
	"math/rand"
	"slices"
	"strings"
	"testing"

	"reedpen/api"
	"reedpen/dfa"
	"reedpen/rules"
)

// steps are where a state goes, by categories.
type steps map[int]int

// state is what a machine has at one: its rule, and where it goes.
type state struct {
	rule int
	next steps
}

// machine is that of states.
func machine(l ...state) api.Dfa {
	var d api.Dfa
	for _, s := range l {
		row := [16]int(slices.Repeat([]int{-1}, 16))
		for c, to := range s.next {
			row[c] = to
		}
		d.Next = append(d.Next, row)
		d.Rule = append(d.Rule, s.rule)
	}
	return d
}

// all are steps by every category to one state.
func all(to int) steps {
	out := steps{}
	for c := range 16 {
		out[c] = to
	}
	return out
}

// copiedMachine is one in memory of its own.
func copiedMachine(d api.Dfa) api.Dfa {
	return api.Dfa{Next: slices.Clone(d.Next), Rule: slices.Clone(d.Rule)}
}

// equal says whether two machines have the same states, by the same numbers.
func equal(a, b api.Dfa) bool { return slices.Equal(a.Next, b.Next) && slices.Equal(a.Rule, b.Rule) }

// told is pieces as a text: of each from where to where, and its rule.
func told(l []api.Piece) string {
	var out []string
	for _, p := range l {
		out = append(out, fmt.Sprintf("%d-%d:%d", p.From, p.To, p.Rule))
	}
	return strings.Join(out, " ")
}

// cats are letters' categories.
func cats(t *testing.T, word string) []int {
	t.Helper()
	out, ok := rules.Cats(word)
	if !ok {
		t.Fatal(word)
	}
	return out
}

// words are all words of at most n categories of some.
func words(n int, cats ...int) [][]int {
	out := [][]int{nil}
	for i := 0; i < len(out); i++ {
		if len(out[i]) < n {
			for _, c := range cats {
				out = append(out, append(slices.Clone(out[i]), c))
			}
		}
	}
	return out
}

// plainCut is a word's pieces, where it is known by which rule each word matches (-1: by none).
func plainCut(word []int, match func(word []int) int) []api.Piece {
	var out []api.Piece
	for from := 0; from < len(word); {
		p := api.Piece{From: from, To: from + 1, Rule: -1}
		for to := from + 1; to <= len(word); to++ {
			if rule := match(word[from:to]); rule >= 0 {
				p.To, p.Rule = to, rule
			}
		}
		out = append(out, p)
		from = p.To
	}
	return out
}

// split holds that what is left of a word behind a piece is cut as it was, and so is what stands ahead.
func split(t *testing.T, name any, word []int, l []api.Piece, cut func(word []int) []api.Piece) {
	t.Helper()
	for i, p := range l {
		if !slices.Equal(cut(word[:p.To]), l[:i+1]) {
			t.Error(name, word, "ahead of", p.To)
		}
		left := cut(word[p.To:])
		for k := range left {
			left[k].From += p.To
			left[k].To += p.To
		}
		if !slices.Equal(left, l[i+1:]) {
			t.Error(name, word, "behind", p.To)
		}
	}
}

// writtenOut are machines, state by state.
func writtenOut() map[string]api.Dfa {
	return map[string]api.Dfa{
		"nothing":      machine(state{-1, nil}),
		"empty word":   machine(state{0, nil}),
		"empty, and 1": machine(state{3, steps{1: 1}}, state{5, nil}),
		"empty, round": machine(state{2, steps{1: 0}}),
		"no rule":      machine(state{-1, all(0)}),
		"all":          machine(state{15, all(0)}),
		"one":          machine(state{-1, all(1)}, state{7, nil}),
		"edges":        machine(state{-1, steps{0: 1, 15: 2}}, state{0, nil}, state{15, nil}),
		"falls back":   machine(state{-1, steps{1: 1}}, state{0, steps{1: 2}}, state{-1, steps{1: 3}}, state{-1, steps{2: 4}}, state{1, nil}),
		"dead end":     machine(state{-1, steps{1: 1}}, state{4, steps{1: 2, 2: 1}}, state{-1, all(2)}),
		"far behind":   machine(state{-1, steps{1: 1}}, state{0, steps{1: 2}}, state{-1, steps{1: 2, 2: 3}}, state{1, nil}),
		"two and two":  machine(state{-1, steps{1: 1}}, state{-1, steps{1: 2}}, state{6, steps{1: 1}}),
		"back to 0":    machine(state{9, steps{1: 1}}, state{-1, steps{2: 0}}),
	}
}

// P9.1: machines written out, their pieces too.
func TestCutWrittenOut(t *testing.T) {
	machines := writtenOut()
	for _, x := range []struct {
		name string
		word []int
		want string
	}{
		{"nothing", []int{1}, "0-1:-1"},
		{"nothing", []int{0, 15, 3}, "0-1:-1 1-2:-1 2-3:-1"},
		{"empty word", []int{0}, "0-1:-1"},
		{"empty word", []int{0, 1}, "0-1:-1 1-2:-1"},
		{"empty, and 1", []int{1, 1, 2, 1}, "0-1:5 1-2:5 2-3:-1 3-4:5"},
		{"empty, round", []int{2, 1, 1, 1, 2}, "0-1:-1 1-4:2 4-5:-1"},
		{"no rule", []int{1, 2, 3}, "0-1:-1 1-2:-1 2-3:-1"},
		{"all", []int{1}, "0-1:15"},
		{"all", []int{0, 1, 2, 3, 14, 15}, "0-6:15"},
		{"all", []int{0, 16, 2, -1, -1, 15}, "0-1:15 1-2:-1 2-3:15 3-4:-1 4-5:-1 5-6:15"},
		{"one", []int{0, 15, 7}, "0-1:7 1-2:7 2-3:7"},
		{"edges", []int{15, 0, 1, 0}, "0-1:15 1-2:0 2-3:-1 3-4:0"},
		{"falls back", []int{1}, "0-1:0"},
		{"falls back", []int{1, 1}, "0-1:0 1-2:0"},
		{"falls back", []int{1, 1, 1}, "0-1:0 1-2:0 2-3:0"},
		{"falls back", []int{1, 1, 1, 2}, "0-4:1"},
		{"falls back", []int{1, 1, 1, 1, 2}, "0-1:0 1-5:1"},
		{"falls back", []int{1, 1, 1, 3, 1, 1, 2, 1, 1, 1, 2, 2}, "0-1:0 1-2:0 2-3:0 3-4:-1 4-5:0 5-6:0 6-7:-1 7-11:1 11-12:-1"},
		{"dead end", []int{1, 2, 2, 1, 2, 1}, "0-3:4 3-5:4 5-6:4"},
		{"far behind", []int{1, 1, 1, 1, 1}, "0-1:0 1-2:0 2-3:0 3-4:0 4-5:0"},
		{"far behind", []int{1, 1, 1, 1, 2}, "0-5:1"},
		{"far behind", []int{1, 1, 1, 3, 1, 2, 1, 1, 2}, "0-1:0 1-2:0 2-3:0 3-4:-1 4-5:0 5-6:-1 6-9:1"},
		{"two and two", []int{1, 1, 1, 1, 1}, "0-4:6 4-5:-1"},
		{"two and two", []int{1}, "0-1:-1"},
		{"two and two", []int{2, 1, 1, 2}, "0-1:-1 1-3:6 3-4:-1"},
		{"back to 0", []int{1, 2, 1, 2, 1, 1}, "0-4:9 4-5:-1 5-6:-1"},
		{"back to 0", []int{2, 1, 2}, "0-1:-1 1-3:9"},
	} {
		got := Cut(machines[x.name], x.word)
		if told(got) != x.want || !Whole(got, len(x.word)) {
			t.Errorf("%s, %v: %s, want %s", x.name, x.word, told(got), x.want)
		}
	}
	for name, d := range machines {
		if len(Cut(d, nil)) != 0 || len(Cut(d, []int{})) != 0 || len(Cut(d, make([]int, 0, 5))) != 0 {
			t.Error(name, "pieces of the empty word")
		}
	}
}

// P9.1: categories that are none are in no rule's words, wherever they stand.
func TestCutOtherCategories(t *testing.T) {
	wrong := []int{-1, 16, 17, -16, 1 << 16, -1 << 32, 1<<32 + 1, math.MinInt, math.MaxInt}
	for name, d := range writtenOut() {
		for _, c := range wrong {
			for _, word := range words(2, 1, 2) {
				for at := range len(word) + 1 {
					ahead, behind := Cut(d, word[:at]), Cut(d, word[at:])
					want := append(slices.Clone(ahead), api.Piece{From: at, To: at + 1, Rule: -1})
					for _, p := range behind {
						want = append(want, api.Piece{From: p.From + at + 1, To: p.To + at + 1, Rule: p.Rule})
					}
					got := Cut(d, slices.Insert(slices.Clone(word), at, c))
					if !slices.Equal(got, want) {
						t.Errorf("%s, %v, %d at %d: %s, want %s", name, word, c, at, told(got), told(want))
					}
				}
			}
		}
		if got := Cut(d, wrong); len(got) != len(wrong) || got[len(wrong)-1] != (api.Piece{From: len(wrong) - 1, To: len(wrong), Rule: -1}) {
			t.Error(name, told(got))
		}
	}
}

// P9.1: all machines of at most two states, two categories, two rules, and all short words.
func TestCutAllSmallMachines(t *testing.T) {
	short := words(5, 0, 15)
	cut := 0
	for states := 1; states <= 2; states++ {
		choices := (states + 1) * (states + 1) * 3 // of one state
		total := choices
		if states == 2 {
			total *= choices
		}
		for number := range total {
			d := numbered(states, number)
			for _, word := range short {
				got := Cut(d, word)
				want := plainCut(word, func(w []int) int { return dfa.Match(d, w) })
				if !slices.Equal(got, want) || !Whole(got, len(word)) {
					t.Fatalf("%v, %v: %s, want %s", d, word, told(got), told(want))
				}
				cut += len(got)
			}
		}
	}
	if cut < 100000 {
		t.Error("too few pieces", cut)
	}
}

// numbered is one of all machines of so many states that go by 0 and 15 alone, and have the rules -1 to 1.
func numbered(states, number int) api.Dfa {
	digit := func(base int) int {
		d := number % base
		number /= base
		return d
	}
	var l []state
	for range states {
		l = append(l, state{digit(3) - 1, steps{0: digit(states+1) - 1, 15: digit(states+1) - 1}})
	}
	return machine(l...)
}

// someMachine is any machine of so many states; half of its steps lead nowhere.
func someMachine(rnd *rand.Rand, states int) api.Dfa {
	var l []state
	for range states {
		s := state{max(rnd.Intn(24)-8, -1), steps{}}
		for c := range 16 {
			s.next[c] = max(rnd.Intn(2*states)-states, -1)
		}
		l = append(l, s)
	}
	return machine(l...)
}

// P9.1: any machines, great ones too, and any words.
func TestCutAnyMachines(t *testing.T) {
	rnd := rand.New(rand.NewSource(9))
	long, single := 0, 0
	for range 600 {
		d := someMachine(rnd, []int{1, 2, 5, 20, 199, 200}[rnd.Intn(6)])
		match := func(w []int) int { return dfa.Match(d, w) }
		cut := func(w []int) []api.Piece { return Cut(d, w) }
		for range 3 {
			var word []int
			for range rnd.Intn(25) {
				word = append(word, rnd.Intn(18)-1)
			}
			got := cut(word)
			if want := plainCut(word, match); !slices.Equal(got, want) || !Whole(got, len(word)) {
				t.Fatalf("%v, %v: %s, want %s", d, word, told(got), told(want))
			}
			split(t, "any machine", word, got, cut)
			for _, p := range got {
				if p.To-p.From > 1 {
					long++
				} else if p.Rule == -1 {
					single++
				}
			}
		}
	}
	if long < 1000 || single < 1000 {
		t.Error("too few of either", long, single)
	}
}

// wrongMachines are such as may not be.
func wrongMachines() map[string]api.Dfa {
	right := machine(state{0, all(0)}, state{1, all(1)})
	with := func(change func(d *api.Dfa)) api.Dfa {
		d := copiedMachine(right)
		change(&d)
		return d
	}
	out := map[string]api.Dfa{
		"zero":        {},
		"empty":       {Next: [][16]int{}, Rule: []int{}},
		"spare room":  {Next: make([][16]int, 0, 4), Rule: make([]int, 0, 4)},
		"no rules":    {Next: right.Next},
		"no steps":    {Rule: right.Rule},
		"rules short": {Next: right.Next, Rule: []int{0}},
		"rules long":  {Next: right.Next, Rule: []int{0, 1, 2}},
		"201 states":  machine(slices.Repeat([]state{{0, all(0)}}, 201)...),
		"5000 states": machine(slices.Repeat([]state{{0, all(0)}}, 5000)...),
	}
	for _, v := range []int{-2, 2, 3, 200, math.MinInt, math.MaxInt} {
		for _, c := range []int{0, 7, 15} {
			out[fmt.Sprintf("first state goes by %d to %d", c, v)] = with(func(d *api.Dfa) { d.Next[0][c] = v })
			out[fmt.Sprintf("last state goes by %d to %d", c, v)] = with(func(d *api.Dfa) { d.Next[1][c] = v })
		}
	}
	for _, v := range []int{-2, 16, 17, math.MinInt, math.MaxInt} {
		out[fmt.Sprintf("first rule %d", v)] = with(func(d *api.Dfa) { d.Rule[0] = v })
		out[fmt.Sprintf("last rule %d", v)] = with(func(d *api.Dfa) { d.Rule[1] = v })
	}
	return out
}

// P9.1: machines that may not be, even where the word wouldn't come to what is wrong.
func TestCutWrongMachines(t *testing.T) {
	for name, d := range wrongMachines() {
		for _, word := range append(words(2, 0, 7, 15), []int{99}, []int{-1, -1}, make([]int, 1000)) {
			if got := Cut(d, word); len(got) != 0 {
				t.Error(name, word, told(got))
			}
		}
	}
	just := machine(slices.Repeat([]state{{0, all(199)}}, 200)...)
	if got := told(Cut(just, []int{1, 2, 3})); got != "0-3:0" {
		t.Error("200 states", got)
	}
}

// P9.1: long words: one piece, very many pieces, and none that matches.
func TestCutLong(t *testing.T) {
	const long = 100000
	ones := slices.Repeat([]int{1}, long)
	machines := writtenOut()
	if got := Cut(machines["all"], ones); told(got) != fmt.Sprintf("0-%d:15", long) {
		t.Error("one piece", len(got))
	}
	for name, rule := range map[string]int{"one": 7, "nothing": -1, "empty word": -1, "edges": -1, "falls back": 0} {
		got := Cut(machines[name], ones)
		if len(got) != long || !Whole(got, long) {
			t.Fatal(name, len(got))
		}
		for i, p := range got {
			if p != (api.Piece{From: i, To: i + 1, Rule: rule}) {
				t.Fatal(name, p)
			}
		}
	}
	got := Cut(machines["two and two"], ones[:long-1])
	if !Whole(got, long-1) || len(got) != 2 || got[0].To != long-2 || got[1].Rule != -1 {
		t.Error("two and two", len(got))
	}
}

// written is a text of pieces without their rules.
func written(l []api.Piece) string {
	var out []byte
	for _, p := range l {
		out = fmt.Appendf(out, "%d-%d ", p.From, p.To)
	}
	return string(out)
}

// P9.1: all lists of at most three pieces between -1 and 4, held against all that can be put together of lengths.
func TestWholeAllShortLists(t *testing.T) {
	right := map[string]int{} // how long the word is
	var put func(l []api.Piece, at int)
	put = func(l []api.Piece, at int) {
		right[written(l)] = at
		for to := at + 1; to <= 4; to++ {
			put(append(slices.Clip(l), api.Piece{From: at, To: to}), to)
		}
	}
	put(nil, 0)
	lists := [][]api.Piece{nil}
	whole := 0
	for i := 0; i < len(lists); i++ {
		l := lists[i]
		long, ok := right[written(l)]
		for n := -2; n <= 6; n++ {
			want := ok && n == long
			if Whole(l, n) != want {
				t.Errorf("%s of %d: %v", written(l), n, !want)
			}
			if want {
				whole++
			}
		}
		for from := -1; from <= 4 && len(l) < 3; from++ {
			for to := -1; to <= 4; to++ {
				lists = append(lists, append(slices.Clip(l), api.Piece{From: from, To: to, Rule: from*to - 1}))
			}
		}
	}
	if want := 1 + 4 + 6 + 4; whole != want { // of at most three pieces: 4 of one, 6 of two, 4 of three
		t.Error(whole)
	}
}

// pieces are those of a rule from where to where.
func pieces(l ...[2]int) []api.Piece {
	var out []api.Piece
	for _, p := range l {
		out = append(out, api.Piece{From: p[0], To: p[1], Rule: 3})
	}
	return out
}

// P9.1: lists named one by one.
func TestWholeNamed(t *testing.T) {
	type p = [2]int
	for name, x := range map[string]struct {
		l    []p
		long int
		want bool
	}{
		"none of none":        {nil, 0, true},
		"empty of none":       {[]p{}, 0, true},
		"none of one":         {nil, 1, false},
		"none of -1":          {nil, -1, false},
		"none of the least":   {nil, math.MinInt, false},
		"none of very long":   {nil, math.MaxInt, false},
		"one":                 {[]p{{0, 1}}, 1, true},
		"one, long":           {[]p{{0, 7}}, 7, true},
		"one, very long":      {[]p{{0, math.MaxInt}}, math.MaxInt, true},
		"three":               {[]p{{0, 2}, {2, 3}, {3, 9}}, 9, true},
		"gap ahead":           {[]p{{1, 3}}, 3, false},
		"gap between":         {[]p{{0, 1}, {2, 3}}, 3, false},
		"gap behind":          {[]p{{0, 1}, {1, 2}}, 3, false},
		"overlap":             {[]p{{0, 2}, {1, 3}}, 3, false},
		"one twice":           {[]p{{0, 2}, {0, 2}}, 2, false},
		"all, and a part":     {[]p{{0, 3}, {1, 3}}, 3, false},
		"goes back":           {[]p{{0, 3}, {3, 1}, {1, 3}}, 3, false},
		"behind the end":      {[]p{{0, 2}, {2, 4}}, 3, false},
		"more behind the end": {[]p{{0, 3}, {3, 4}}, 3, false},
		"empty of an empty":   {[]p{{0, 0}}, 0, false},
		"empty first":         {[]p{{0, 0}, {0, 3}}, 3, false},
		"empty between":       {[]p{{0, 1}, {1, 1}, {1, 3}}, 3, false},
		"empty last":          {[]p{{0, 3}, {3, 3}}, 3, false},
		"turned":              {[]p{{3, 0}}, 3, false},
		"in another order":    {[]p{{1, 3}, {0, 1}}, 3, false},
		"ahead of the word":   {[]p{{-1, 0}, {0, 3}}, 3, false},
		"all ahead of it":     {[]p{{-3, 0}}, 0, false},
		"as long, but ahead":  {[]p{{-1, 2}}, 3, false},
		"the least":           {[]p{{math.MinInt, math.MaxInt}}, math.MaxInt, false},
		"down to the least":   {[]p{{0, math.MinInt}}, math.MinInt, false},
		"of a word of -3":     {[]p{{0, -3}}, -3, false},
	} {
		if Whole(pieces(x.l...), x.long) != x.want {
			t.Error(name)
		}
	}
	var long []api.Piece
	for i := range 100000 {
		long = append(long, api.Piece{From: i, To: i + 1, Rule: -1})
	}
	if !Whole(long, len(long)) || Whole(long, len(long)-1) || Whole(long, len(long)+1) || Whole(long[1:], len(long)) {
		t.Error("very many")
	}
	long[70000].To++
	if Whole(long, len(long)) {
		t.Error("one of very many overlaps")
	}
}

// P9.1: which rule a piece is of is no matter of being whole.
func TestWholeAnyRules(t *testing.T) {
	for _, rule := range []int{-2, -1, 0, 15, 16, math.MinInt, math.MaxInt} {
		l := []api.Piece{{From: 0, To: 2, Rule: rule}, {From: 2, To: 3, Rule: -rule}}
		if !Whole(l, 3) || Whole(l, 2) || Whole(l[1:], 3) {
			t.Error(rule)
		}
	}
}

// scribble writes over all of a list, spare room included.
func scribble[T any](l []T, v T) {
	l = l[:cap(l)]
	for i := range l {
		l[i] = v
	}
}

// P9.1, rule 4: nothing that is handed in is changed, and pieces are new memory.
func TestCutMemory(t *testing.T) {
	for name, d := range writtenOut() {
		n := len(d.Next)
		room := api.Dfa{Next: append(slices.Clone(d.Next), [16]int{77}), Rule: append(slices.Clone(d.Rule), 77)}
		word := []int{1, 1, 2, 1, 1, 1, 2, 15, 88, 88}
		wasRoom, wasWord := copiedMachine(room), slices.Clone(word)
		in := api.Dfa{Next: room.Next[:n], Rule: room.Rule[:n]}
		first, second := Cut(in, word[:8]), Cut(in, word[:8])
		want := told(second)
		if len(first) == 0 || told(first) != want {
			t.Fatal(name, told(first), want)
		}
		scribble(first, api.Piece{From: 66, To: 66, Rule: 66})
		if told(second) != want || told(Cut(in, word[:8])) != want {
			t.Error(name, "answers share memory")
		}
		long := append(slices.Clone(second), api.Piece{From: 55})
		was := slices.Clone(long)
		if !Whole(long[:len(second)], 8) || !slices.Equal(long, was) {
			t.Error(name, "pieces were changed")
		}
		if !equal(room, wasRoom) || !slices.Equal(word, wasWord) {
			t.Error(name, "something was changed")
		}
	}
}
