package nfa

import (
	"math"
	"math/rand"
	"slices"
	"testing"

	"reedpen/api"
	"reedpen/regex"
)

func none() api.Regex { return api.Regex{} }

func set(s uint16) api.Regex { return api.Regex{Kind: api.KindSet, Set: s} }

func cat(l ...api.Regex) api.Regex { return api.Regex{Kind: api.KindCat, Kids: l} }

func alt(l ...api.Regex) api.Regex { return api.Regex{Kind: api.KindAlt, Kids: l} }

func star(r api.Regex) api.Regex { return api.Regex{Kind: api.KindStar, Kids: []api.Regex{r}} }

func opt(r api.Regex) api.Regex { return api.Regex{Kind: api.KindOpt, Kids: []api.Regex{r}} }

// within is an expression that is n deeper.
func within(r api.Regex, n int, wrap func(api.Regex) api.Regex) api.Regex {
	for range n {
		r = wrap(r)
	}
	return r
}

// full has n nodes, is as deep as may be, and has last as its deepest node, behind all others.
func full(n int, last api.Regex) api.Regex {
	return alt(append(slices.Repeat([]api.Regex{set(1)}, n-api.MaxDeep), within(last, api.MaxDeep-2, star))...)
}

// state is what a machine has at one.
type state struct {
	free []int
	set  uint16
	to   int
	rule int
}

// machine is that of states.
func machine(l ...state) api.Nfa {
	var n api.Nfa
	for _, s := range l {
		n.Free = append(n.Free, s.free)
		n.Set = append(n.Set, s.set)
		n.To = append(n.To, s.to)
		n.Rule = append(n.Rule, s.rule)
	}
	return n
}

// free is a state with free steps alone.
func free(to ...int) state { return state{free: to, rule: -1} }

// by is a state with a step by categories alone.
func by(set uint16, to int) state { return state{set: set, to: to, rule: -1} }

// ends is a state at which a rule ends, without steps.
func ends(rule int) state { return state{rule: rule} }

// alike says whether two machines have the same states; nil and empty lists are one.
func alike(a, b api.Nfa) bool {
	return slices.EqualFunc(a.Free, b.Free, slices.Equal) && slices.Equal(a.Set, b.Set) && slices.Equal(a.To, b.To) && slices.Equal(a.Rule, b.Rule)
}

// copied is a machine in memory of its own.
func copied(n api.Nfa) api.Nfa {
	out := api.Nfa{Set: slices.Clone(n.Set), To: slices.Clone(n.To), Rule: slices.Clone(n.Rule)}
	for _, l := range n.Free {
		out.Free = append(out.Free, slices.Clone(l))
	}
	return out
}

// build is the machine of expressions that have one.
func build(t *testing.T, l ...api.Regex) api.Nfa {
	t.Helper()
	n, e := Build(l)
	if e != api.OK {
		t.Fatal(l, e)
	}
	return n
}

// size is how many nodes an expression has.
func size(r api.Regex) int {
	n := 1
	for _, kid := range r.Kids {
		n += size(kid)
	}
	return n
}

// plain is the machine by the chapter's words: the places of all states are reckoned from the sizes, steps are gathered as pairs, and sorted in the end.
func plain(l []api.Regex) api.Nfa {
	all := 1
	for _, r := range l {
		all += 2 * size(r)
	}
	n := api.Nfa{Free: make([][]int, all), Set: make([]uint16, all), To: make([]int, all), Rule: make([]int, all)}
	for i := range n.Rule {
		n.Rule[i] = -1
	}
	step := func(from, to int) {
		if !slices.Contains(n.Free[from], to) {
			n.Free[from] = append(n.Free[from], to)
			slices.Sort(n.Free[from])
		}
	}
	var lay func(r api.Regex, b int)
	lay = func(r api.Regex, b int) {
		end := b + 2*size(r) - 1
		var first, last []int
		next := b + 1
		for _, kid := range r.Kids {
			first, last = append(first, next), append(last, next+2*size(kid)-1)
			lay(kid, next)
			next += 2 * size(kid)
		}
		for i := range first {
			if r.Kind != api.KindCat || i == 0 {
				step(b, first[i])
			}
			if r.Kind == api.KindCat && i > 0 {
				step(last[i-1], first[i])
			}
			if r.Kind != api.KindCat || i == len(first)-1 {
				step(last[i], end)
			}
			if r.Kind == api.KindStar {
				step(last[i], first[i])
			}
		}
		if r.Kind == api.KindNil || r.Kind == api.KindStar || r.Kind == api.KindOpt {
			step(b, end)
		}
		if r.Kind == api.KindSet {
			n.Set[b], n.To[b] = r.Set, end
		}
	}
	at := 1
	for rule, r := range l {
		step(0, at)
		lay(r, at)
		at += 2 * size(r)
		n.Rule[at-1] = rule
	}
	return n
}

// small are all right expressions of n nodes whose sets are of two categories.
func small(n int) []api.Regex {
	if n == 1 {
		return []api.Regex{none(), set(1), set(1 << 15), set(1 | 1<<15)}
	}
	var out []api.Regex
	for _, kids := range lists(n - 1) {
		out = append(out, cat(kids...), alt(kids...))
		if len(kids) == 1 {
			out = append(out, star(kids[0]), opt(kids[0]))
		}
	}
	return out
}

// lists are all lists of such Kids with n nodes in all.
func lists(n int) [][]api.Regex {
	if n == 0 {
		return [][]api.Regex{nil}
	}
	var out [][]api.Regex
	for first := 1; first <= n; first++ {
		for _, kid := range small(first) {
			for _, rest := range lists(n - first) {
				out = append(out, append([]api.Regex{kid}, rest...))
			}
		}
	}
	return out
}

// some is a right expression of at most most nodes, at most deep deep, over the categories 0, 7 and 15.
func some(rnd *rand.Rand, most, deep int) api.Regex {
	if most < 2 || deep < 2 || rnd.Intn(4) == 0 {
		s := []uint16{1, 1 << 7, 1 << 15, 1 | 1<<7, 1<<7 | 1<<15, 1 | 1<<15}[rnd.Intn(6)]
		return []api.Regex{none(), set(s), set(s), set(s)}[rnd.Intn(4)]
	}
	r := api.Regex{Kind: byte(api.KindCat + rnd.Intn(4))}
	kids, left := 1, most-1
	if r.Kind <= api.KindAlt {
		kids = 1 + rnd.Intn(min(left, 4))
	}
	for i := range kids {
		kid := some(rnd, left-(kids-1-i), deep-1)
		r.Kids = append(r.Kids, kid)
		left -= size(kid)
	}
	return r
}

// P6.1: machines written out, state by state.
func TestBuildWrittenOut(t *testing.T) {
	for name, x := range map[string]struct {
		l    []api.Regex
		want api.Nfa
	}{
		"nothing":       {[]api.Regex{none()}, machine(free(1), free(2), ends(0))},
		"the example":   {[]api.Regex{set(1 << 3)}, machine(free(1), by(8, 2), ends(0))},
		"all":           {[]api.Regex{set(0xFFFF)}, machine(free(1), by(0xFFFF, 2), ends(0))},
		"cat of one":    {[]api.Regex{cat(set(2))}, machine(free(1), free(2), by(2, 3), free(4), ends(0))},
		"cat of two":    {[]api.Regex{cat(set(2), set(4))}, machine(free(1), free(2), by(2, 3), free(4), by(4, 5), free(6), ends(0))},
		"cat of three":  {[]api.Regex{cat(set(2), none(), set(4))}, machine(free(1), free(2), by(2, 3), free(4), free(5), free(6), by(4, 7), free(8), ends(0))},
		"alt of one":    {[]api.Regex{alt(set(2))}, machine(free(1), free(2), by(2, 3), free(4), ends(0))},
		"alt of two":    {[]api.Regex{alt(set(2), set(4))}, machine(free(1), free(2, 4), by(2, 3), free(6), by(4, 5), free(6), ends(0))},
		"alt of three":  {[]api.Regex{alt(none(), set(2), none())}, machine(free(1), free(2, 4, 6), free(3), free(8), by(2, 5), free(8), free(7), free(8), ends(0))},
		"alt of twins":  {[]api.Regex{alt(set(2), set(2))}, machine(free(1), free(2, 4), by(2, 3), free(6), by(2, 5), free(6), ends(0))},
		"star":          {[]api.Regex{star(set(2))}, machine(free(1), free(2, 4), by(2, 3), free(2, 4), ends(0))},
		"star of none":  {[]api.Regex{star(none())}, machine(free(1), free(2, 4), free(3), free(2, 4), ends(0))},
		"opt":           {[]api.Regex{opt(set(2))}, machine(free(1), free(2, 4), by(2, 3), free(4), ends(0))},
		"opt of none":   {[]api.Regex{opt(none())}, machine(free(1), free(2, 4), free(3), free(4), ends(0))},
		"star of star":  {[]api.Regex{star(star(set(2)))}, machine(free(1), free(2, 6), free(3, 5), by(2, 4), free(3, 5), free(2, 6), ends(0))},
		"opt of star":   {[]api.Regex{opt(star(set(2)))}, machine(free(1), free(2, 6), free(3, 5), by(2, 4), free(3, 5), free(6), ends(0))},
		"star of opt":   {[]api.Regex{star(opt(set(2)))}, machine(free(1), free(2, 6), free(3, 5), by(2, 4), free(5), free(2, 6), ends(0))},
		"alt of cats":   {[]api.Regex{alt(cat(set(2)), set(4))}, machine(free(1), free(2, 6), free(3), by(2, 4), free(5), free(8), by(4, 7), free(8), ends(0))},
		"cat of alts":   {[]api.Regex{cat(alt(set(2)), set(4))}, machine(free(1), free(2), free(3), by(2, 4), free(5), free(6), by(4, 7), free(8), ends(0))},
		"two rules":     {[]api.Regex{set(2), set(4)}, machine(free(1, 3), by(2, 2), ends(0), by(4, 4), ends(1))},
		"twin rules":    {[]api.Regex{set(2), set(2)}, machine(free(1, 3), by(2, 2), ends(0), by(2, 4), ends(1))},
		"three rules":   {[]api.Regex{none(), opt(set(2)), set(4)}, machine(free(1, 3, 7), free(2), ends(0), free(4, 6), by(2, 5), free(6), ends(1), by(4, 8), ends(2))},
		"star and next": {[]api.Regex{star(set(2)), none()}, machine(free(1, 5), free(2, 4), by(2, 3), free(2, 4), ends(0), free(6), ends(1))},
	} {
		n, e := Build(x.l)
		if e != api.OK || !alike(n, x.want) {
			t.Error(name, n, e)
		}
		if !Right(n) {
			t.Error(name, "isn't right")
		}
		if !alike(plain(x.l), x.want) {
			t.Error(name, "the plain one is unlike")
		}
	}
}

// P6.1: all small expressions, alone; many great ones, several at once: held against what the chapter's words make.
func TestBuildPlain(t *testing.T) {
	for n := 1; n <= 4; n++ {
		for _, r := range small(n) {
			if got := build(t, r); !alike(got, plain([]api.Regex{r})) || !Right(got) {
				t.Fatal(r, got)
			}
		}
	}
	rnd := rand.New(rand.NewSource(6))
	for range 300 {
		var l []api.Regex
		for range 1 + rnd.Intn(api.MaxRules) {
			l = append(l, some(rnd, 1+rnd.Intn(api.MaxNodes), 1+rnd.Intn(api.MaxDeep)))
		}
		n := build(t, l...)
		if !alike(n, plain(l)) || !Right(n) {
			t.Fatal(l, n)
		}
		for _, l := range n.Free {
			if !slices.IsSorted(l) || len(slices.Compact(slices.Clone(l))) != len(l) {
				t.Fatal("free steps don't rise, each once:", l)
			}
		}
	}
}

// P6.1: how many expressions, nodes and levels there may be.
func TestBuildLimits(t *testing.T) {
	one := set(1)
	for name, x := range map[string]struct {
		l      []api.Regex
		states int
	}{
		"nil":                    {nil, 0},
		"none":                   {[]api.Regex{}, 0},
		"none, with spare room":  {make([]api.Regex, 0, 4), 0},
		"one":                    {[]api.Regex{one}, 3},
		"sixteen":                {slices.Repeat([]api.Regex{one}, 16), 33},
		"seventeen":              {slices.Repeat([]api.Regex{one}, 17), 0},
		"very many":              {slices.Repeat([]api.Regex{one}, 100000), 0},
		"most nodes":             {[]api.Regex{cat(slices.Repeat([]api.Regex{one}, 99)...)}, 201},
		"one too many nodes":     {[]api.Regex{cat(slices.Repeat([]api.Regex{one}, 100)...)}, 0},
		"deepest":                {[]api.Regex{within(one, 11, star)}, 25},
		"one too deep":           {[]api.Regex{within(one, 12, star)}, 0},
		"most nodes, deepest":    {[]api.Regex{full(api.MaxNodes, one)}, 201},
		"too many nodes deepest": {[]api.Regex{full(api.MaxNodes+1, one)}, 0},
		"all of it":              {slices.Repeat([]api.Regex{full(api.MaxNodes, one)}, 16), 3201},
		"all of it, and one":     {slices.Repeat([]api.Regex{full(api.MaxNodes, one)}, 17), 0},
	} {
		n, e := Build(x.l)
		if x.states == 0 {
			refused(t, name, n, e)
			continue
		}
		if e != api.OK || !Right(n) || !alike(n, plain(x.l)) {
			t.Error(name, e)
		}
		for i, l := range []int{len(n.Free), len(n.Set), len(n.To), len(n.Rule)} {
			if l != x.states {
				t.Error(name, i, l)
			}
		}
	}
}

// refused says if a machine was made of what has none.
func refused(t *testing.T, name string, n api.Nfa, e api.Errno) {
	t.Helper()
	if e != api.ErrArg || len(n.Free)+len(n.Set)+len(n.To)+len(n.Rule) != 0 {
		t.Error(name, n, e)
	}
}

// wrongOnes are expressions that aren't right.
func wrongOnes() map[string]api.Regex {
	one := []api.Regex{set(1)}
	itself := []api.Regex{{Kind: api.KindStar}}
	itself[0].Kids = itself
	doubled := set(1)
	for range 60 {
		doubled = alt(doubled, doubled)
	}
	return map[string]api.Regex{
		"nothing with a set": {Kind: api.KindNil, Set: 1},
		"nothing with a kid": {Kind: api.KindNil, Kids: one},
		"set of none":        {Kind: api.KindSet},
		"set with a kid":     {Kind: api.KindSet, Set: 1, Kids: one},
		"cat of none":        {Kind: api.KindCat},
		"cat with a set":     {Kind: api.KindCat, Set: 1, Kids: one},
		"alt of none":        {Kind: api.KindAlt},
		"alt with a set":     {Kind: api.KindAlt, Set: 1, Kids: one},
		"star of none":       {Kind: api.KindStar},
		"star of two":        {Kind: api.KindStar, Kids: []api.Regex{set(1), set(2)}},
		"star with a set":    {Kind: api.KindStar, Set: 1, Kids: one},
		"opt of none":        {Kind: api.KindOpt},
		"opt of two":         {Kind: api.KindOpt, Kids: []api.Regex{set(1), set(2)}},
		"no kind":            {Kind: 6},
		"the greatest kind":  {Kind: 255, Set: 1, Kids: one},
		"wrong within":       cat(set(1), star(opt(api.Regex{Kind: api.KindSet}))),
		"a node too many":    full(api.MaxNodes+1, set(1)),
		"too deep":           within(set(1), api.MaxDeep, opt),
		"2^60 nodes":         doubled,
		"itself":             itself[0],
	}
}

// P6.1: one that isn't right, alone and in each place among right ones.
func TestBuildWrong(t *testing.T) {
	for name, r := range wrongOnes() {
		for most := 1; most <= api.MaxRules; most++ {
			for at := range most {
				l := slices.Repeat([]api.Regex{set(1)}, most)
				l[at] = r
				n, e := Build(l)
				refused(t, name, n, e)
			}
		}
	}
}

// scribble writes over all of a list, spare room included.
func scribble[T any](l []T, v T) {
	l = l[:cap(l)]
	for i := range l {
		l[i] = v
	}
}

// P6.1, rule 4: expressions stay as they are; a machine is new memory, and no two of its lists share any.
func TestBuildMemory(t *testing.T) {
	fresh := func() []api.Regex {
		return []api.Regex{cat(set(2), star(alt(set(4), opt(set(8)))), none()), full(40, set(2)), alt(set(2), set(4), set(8))}
	}
	l := append(fresh(), set(99))[:3]
	n := build(t, l...)
	want := plain(fresh())
	if !slices.EqualFunc(l, fresh(), regex.Same) || !regex.Same(l[:4][3], set(99)) {
		t.Error("what was handed in was changed")
	}
	for i := range n.Free {
		got := build(t, l...)
		scribble(got.Free[i], -7)
		got.Free[i] = want.Free[i]
		if !alike(got, want) {
			t.Fatal("the free steps share memory", i)
		}
	}
	scribble(n.Set, 77)
	scribble(n.Rule, 77)
	if !slices.Equal(n.To, want.To) || !slices.EqualFunc(n.Free, want.Free, slices.Equal) {
		t.Error("lists share memory")
	}
	scribble(n.To, 78)
	if slices.Contains(n.Rule, 78) || !slices.EqualFunc(n.Free, want.Free, slices.Equal) {
		t.Error("lists share memory")
	}
	scribble(n.Free, nil)
	if !alike(build(t, l...), want) || !slices.EqualFunc(l, fresh(), regex.Same) {
		t.Error("something was kept, or is shared with what was handed in")
	}
}

// wide is a machine of n states without steps.
func wide(n int) api.Nfa {
	return machine(slices.Repeat([]state{ends(-1)}, n)...)
}

// P6.2: how many states there may be.
func TestRightStates(t *testing.T) {
	for n, want := range map[int]bool{0: false, 1: true, 2: true, 3201: true, 3299: true, 3300: true, 3301: false, 100000: false} {
		if Right(wide(n)) != want {
			t.Error(n)
		}
	}
	if Right(api.Nfa{}) || Right(api.Nfa{Free: [][]int{}, Set: []uint16{}, To: []int{}, Rule: []int{}}) {
		t.Error("none")
	}
}

// P6.2: lists of unlike lengths: each in turn shorter, longer, or not there.
func TestRightLengths(t *testing.T) {
	for _, states := range []int{1, 2, 5, 3300} {
		for which := range 4 {
			for _, other := range []int{0, states - 1, states + 1, 2 * states} {
				n, m := wide(states), wide(other)
				switch which {
				case 0:
					n.Free = m.Free
				case 1:
					n.Set = m.Set
				case 2:
					n.To = m.To
				case 3:
					n.Rule = m.Rule
				}
				if Right(n) {
					t.Error(states, which, other)
				}
				shut(t, n)
			}
		}
	}
	n := wide(4)
	n.Set, n.To = n.Set[:3], n.To[:3]
	if Right(n) {
		t.Error("two and two")
	}
}

// shut says if anything is told of a machine that may not be.
func shut(t *testing.T, n api.Nfa) {
	t.Helper()
	for _, l := range [][]int{nil, {0}, {0, 1, 2}, {-1, 5000}} {
		if len(Close(n, l...)) != 0 {
			t.Error("Close", n, l)
		}
		for cat := -1; cat <= 16; cat++ {
			if len(Step(n, l, cat)) != 0 {
				t.Error("Step", n, l, cat)
			}
		}
	}
	for _, word := range [][]int{nil, {0}, {1}, {0, 1, 15}, {-1}, {16}} {
		if Match(n, word) != -1 {
			t.Error("Match", n, word)
		}
	}
}

// P6.2: free steps, To and Rule, at each state, at their bounds; nothing is told of those that may not be (P6.3).
func TestRightValues(t *testing.T) {
	base := machine(state{free: []int{1, 3}, set: 1, to: 1, rule: 0}, by(0xFFFF, 3), free(2, 0), ends(1))
	if !Right(base) || Match(base, nil) != 0 {
		t.Fatal("the base")
	}
	wants := func(n api.Nfa, want bool, what ...int) {
		t.Helper()
		if Right(n) != want {
			t.Error(what)
		}
		if !want {
			shut(t, n)
		}
	}
	for at := range 4 {
		for v, want := range map[int]bool{math.MinInt: false, -2: false, -1: false, 0: true, 3: true, 4: false, 5: false, math.MaxInt: false} {
			n := copied(base)
			n.Free[at] = []int{v}
			wants(n, want, at, v, 0)
			n.Free[at] = []int{2, v, 1}
			wants(n, want, at, v, 1)
			n.Free[at] = []int{0, 3, v}
			wants(n, want, at, v, 2)
			for _, s := range []uint16{0, 1, 1 << 15, 0xFFFF} {
				n := copied(base)
				n.Set[at], n.To[at] = s, v
				wants(n, want || s == 0, at, v, int(s))
			}
		}
		for v, want := range map[int]bool{math.MinInt: false, -3: false, -2: false, -1: true, 0: true, 1: true, 15: true, 16: false, math.MaxInt: false} {
			n := copied(base)
			n.Rule[at] = v
			wants(n, want, at, v)
		}
	}
}

// P6.2: free steps needn't rise, nor be told once, nor be few; rules may end at the beginning, and at several states.
func TestRightOthers(t *testing.T) {
	for name, n := range map[string]api.Nfa{
		"falling":      machine(free(2, 1, 0), ends(0), ends(-1)),
		"twice":        machine(free(1, 1, 1), ends(0)),
		"to itself":    machine(free(0)),
		"very many":    machine(state{free: make([]int, 100000), rule: 15}),
		"one rule all": machine(ends(3), ends(3), ends(3)),
		"nil lists":    machine(state{}, state{free: []int{}}),
		"by and free":  machine(state{free: []int{0, 1}, set: 3, to: 1, rule: 2}, ends(-1)),
	} {
		if !Right(n) {
			t.Error(name)
		}
	}
}

// P6.3: Close, written out.
func TestCloseWrittenOut(t *testing.T) {
	n := build(t, cat(set(2), star(cat(set(16), set(2)))), set(2)) // 0 to 14
	circle := machine(free(1), free(2), free(3), free(0), free(4), free(0, 5))
	falling := machine(ends(0), free(0), free(1), free(2, 0, 2))
	for name, x := range map[string]struct {
		n            api.Nfa
		states, want []int
	}{
		"nil":               {n, nil, nil},
		"no states":         {n, []int{}, nil},
		"the beginning":     {n, []int{0}, []int{0, 1, 2, 13}},
		"the last":          {n, []int{14}, []int{14}},
		"without free":      {n, []int{2}, []int{2}},
		"back":              {n, []int{10}, []int{5, 6, 10, 11, 12}},
		"two, falling":      {n, []int{13, 3}, []int{3, 4, 5, 6, 11, 12, 13}},
		"twice":             {n, []int{14, 7, 14, 7}, []int{7, 8, 14}},
		"both by a third":   {n, []int{12, 11, 10}, []int{5, 6, 10, 11, 12}},
		"none is a state":   {n, []int{-1, 15, math.MinInt, math.MaxInt}, nil},
		"some are states":   {n, []int{-1, 14, 15, 0, 99}, []int{0, 1, 2, 13, 14}},
		"a circle":          {circle, []int{0}, []int{0, 1, 2, 3}},
		"within a circle":   {circle, []int{2}, []int{0, 1, 2, 3}},
		"to itself":         {circle, []int{4}, []int{4}},
		"into a circle":     {circle, []int{5}, []int{0, 1, 2, 3, 5}},
		"all of two":        {circle, []int{5, 4, 3}, []int{0, 1, 2, 3, 4, 5}},
		"falling":           {falling, []int{3}, []int{0, 1, 2, 3}},
		"falling, a part":   {falling, []int{1}, []int{0, 1}},
		"one alone":         {wide(1), []int{0}, []int{0}},
		"one alone, not it": {wide(1), []int{1}, nil},
		"the very last":     {wide(3300), []int{3299, 3300, 0}, []int{0, 3299}},
	} {
		if got := Close(x.n, x.states...); !slices.Equal(got, x.want) {
			t.Error(name, got)
		}
	}
}

// P6.3: a chain and a ring of all states there may be, and each state to each.
func TestCloseGreat(t *testing.T) {
	chain, ring, each, all := wide(3300), wide(3300), wide(3300), make([]int, 3300)
	for i := range all {
		all[i] = i
	}
	for i := range all {
		chain.Free[i] = []int{min(i+1, 3299)}
		ring.Free[i] = []int{(i + 3299) % 3300}
		each.Free[i] = all
	}
	for i, n := range []api.Nfa{chain, ring, each} {
		if !slices.Equal(Close(n, 0), all) {
			t.Error(i)
		}
		n.Set[3299], n.To[3299], n.Rule[3299] = 1, 0, 5
		if Match(n, nil) != 5 || Match(n, []int{0, 0, 0}) != 5 || Match(n, []int{0, 1, 0}) != -1 {
			t.Error(i, "Match")
		}
	}
	if !slices.Equal(Close(chain, 3298), []int{3298, 3299}) {
		t.Error("the chain's end")
	}
}

// P6.3: Step, written out.
func TestStepWrittenOut(t *testing.T) {
	n := build(t, cat(set(2), star(cat(set(16), set(2)))), set(2))
	m := machine(state{free: []int{1}, set: 1 | 1<<15, to: 2, rule: 0}, by(0xFFFF, 0), by(1<<7, 2), state{free: []int{2}, to: 1, rule: -1}, by(1, 4))
	for name, x := range map[string]struct {
		n      api.Nfa
		states []int
		cat    int
		want   []int
	}{
		"nil":             {n, nil, 1, nil},
		"no states":       {n, []int{}, 1, nil},
		"one":             {n, []int{2}, 1, []int{3}},
		"not by it":       {n, []int{2}, 4, nil},
		"some":            {n, []int{13, 2, 6, 2, 50}, 1, []int{3, 14}},
		"no free ahead":   {n, []int{0, 1}, 1, nil},
		"no free behind":  {n, []int{6}, 4, []int{7}},
		"rising":          {m, []int{0, 1}, 0, []int{0, 2}},
		"falling":         {m, []int{1, 0, 4}, 0, []int{0, 2, 4}},
		"the last one":    {m, []int{0, 1, 2, 3, 4}, 15, []int{0, 2}},
		"one between":     {m, []int{0, 1, 2, 3, 4}, 7, []int{0, 2}},
		"to one twice":    {m, []int{0, 2, 0}, 0, []int{2}},
		"to itself":       {m, []int{2}, 7, []int{2}},
		"a To without":    {m, []int{3}, 1, nil},
		"-1":              {m, []int{0, 1, 2, 3, 4}, -1, nil},
		"16":              {m, []int{0, 1, 2, 3, 4}, 16, nil},
		"64":              {m, []int{0, 1, 2, 3, 4}, 64, nil},
		"256":             {m, []int{0, 1, 2, 3, 4}, 256, nil},
		"the least":       {m, []int{0, 1, 2, 3, 4}, math.MinInt, nil},
		"the greatest":    {m, []int{0, 1, 2, 3, 4}, math.MaxInt, nil},
		"none is a state": {m, []int{-1, 5, math.MinInt, math.MaxInt}, 0, nil},
		"some are states": {m, []int{-1, 1, 5, 4, 6}, 0, []int{0, 4}},
	} {
		if got := Step(x.n, x.states, x.cat); !slices.Equal(got, x.want) {
			t.Error(name, got)
		}
	}
}

// P6.3: Match, written out.
func TestMatchWrittenOut(t *testing.T) {
	c, h := set(2), set(16)
	n := build(t, cat(c, star(cat(h, c))), c, cat(star(c), h), opt(c))
	twisted := machine(state{free: []int{2, 1}, rule: -1}, state{set: 3, to: 1, rule: 9}, state{set: 1, to: 2, rule: 4}, ends(0))
	first := machine(state{set: 2, to: 0, rule: 15})
	for name, x := range map[string]struct {
		n    api.Nfa
		word []int
		want int
	}{
		"the empty word":          {n, nil, 3},
		"the empty one, not nil":  {n, []int{}, 3},
		"the least of three":      {n, []int{1}, 0},
		"once more":               {n, []int{1, 4, 1}, 0},
		"often":                   {n, []int{1, 4, 1, 4, 1, 4, 1}, 0},
		"another":                 {n, []int{1, 4}, 2},
		"a third":                 {n, []int{1, 1, 1, 4}, 2},
		"alone":                   {n, []int{4}, 2},
		"no rule":                 {n, []int{1, 1}, -1},
		"a category that none is": {n, []int{2}, -1},
		"no more":                 {n, []int{2, 1}, -1},
		"-1":                      {n, []int{-1}, -1},
		"16":                      {n, []int{16}, -1},
		"17":                      {n, []int{17}, -1},
		"65":                      {n, []int{65}, -1},
		"-1 behind":               {n, []int{1, -1}, -1},
		"16 between":              {n, []int{1, 16, 4}, -1},
		"-1 ahead":                {n, []int{-1, 4}, -1},
		"the greatest":            {n, []int{math.MaxInt}, -1},
		"the least number":        {n, []int{math.MinInt}, -1},
		"least behind":            {twisted, nil, 4},
		"least behind, by one":    {twisted, []int{0, 0}, 4},
		"the greater alone":       {twisted, []int{1}, 9},
		"the greater, once more":  {twisted, []int{1, 0}, 9},
		"not come to":             {machine(ends(-1), ends(0)), nil, -1},
		"at the beginning":        {first, nil, 15},
		"round":                   {first, []int{1, 1, 1}, 15},
		"not round":               {first, []int{1, 0, 1}, -1},
		"rule 0 and no rule":      {machine(free(1, 2), ends(-1), ends(0)), nil, 0},
		"no rule and rule 0":      {machine(free(1, 2), ends(0), ends(-1)), nil, 0},
	} {
		if got := Match(x.n, x.word); got != x.want {
			t.Error(name, got)
		}
	}
	if Match(first, slices.Repeat([]int{1}, 1<<20)) != 15 || Match(first, slices.Repeat([]int{2}, 1<<20)) != -1 {
		t.Error("long words")
	}
}

// anyMachine is one that may be, with steps wherever.
func anyMachine(rnd *rand.Rand) api.Nfa {
	states := 1 + rnd.Intn(12)
	n := wide(states)
	for i := range states {
		for range rnd.Intn(4) {
			n.Free[i] = append(n.Free[i], rnd.Intn(states))
		}
		if rnd.Intn(2) == 0 {
			n.Free[i] = nil
		}
		n.Set[i] = uint16(rnd.Intn(4)) | uint16(rnd.Intn(2))<<15
		n.To[i] = rnd.Intn(states)
		if n.Set[i] == 0 {
			n.To[i] = rnd.Intn(40) - 20
		}
		n.Rule[i] = max(-1, rnd.Intn(32)-16)
	}
	return n
}

// reach says, of each two states, whether the second is come to by free steps from the first.
func reach(n api.Nfa) [][]bool {
	out := make([][]bool, len(n.Free))
	for i := range out {
		out[i] = make([]bool, len(out))
		out[i][i] = true
		for _, j := range n.Free[i] {
			out[i][j] = true
		}
	}
	for k := range out {
		for i := range out {
			for j := range out {
				out[i][j] = out[i][j] || out[i][k] && out[k][j]
			}
		}
	}
	return out
}

// numbers are some, most of them states.
func numbers(rnd *rand.Rand, states int) []int {
	var out []int
	for range rnd.Intn(5) {
		out = append(out, rnd.Intn(states+4)-2)
	}
	return out
}

// plainRules are all rules by which a machine matches a word, sought step by step, from each state anew.
func plainRules(n api.Nfa, far [][]bool, from int, word []int) map[int]int {
	out := map[int]int{}
	for s := range far {
		if !far[from][s] {
			continue
		}
		if len(word) == 0 {
			out[n.Rule[s]]++
		} else if word[0] >= 0 && word[0] <= 15 && n.Set[s]&(1<<word[0]) != 0 {
			for rule := range plainRules(n, far, n.To[s], word[1:]) {
				out[rule]++
			}
		}
	}
	return out
}

// P6.3: Close, Step and Match of any machines, held against what the chapter's words say.
func TestAnyMachines(t *testing.T) {
	rnd := rand.New(rand.NewSource(63))
	for range 4000 {
		n := anyMachine(rnd)
		if !Right(n) {
			t.Fatal(n)
		}
		far := reach(n)
		from := numbers(rnd, len(far))
		var closed []int
		for s := range far {
			if slices.ContainsFunc(from, func(f int) bool { return f >= 0 && f < len(far) && far[f][s] }) {
				closed = append(closed, s)
			}
		}
		if got := Close(n, from...); !slices.Equal(got, closed) {
			t.Fatal(n, from, got)
		}
		cat := []int{0, 1, 2, 15, 16, -1}[rnd.Intn(6)]
		var stepped []int
		for s := range far {
			if slices.ContainsFunc(from, func(f int) bool {
				return f >= 0 && f < len(far) && n.To[f] == s && cat >= 0 && cat < 16 && n.Set[f]&(1<<cat) != 0
			}) {
				stepped = append(stepped, s)
			}
		}
		if got := Step(n, from, cat); !slices.Equal(got, stepped) {
			t.Fatal(n, from, cat, got)
		}
		var word []int
		for range rnd.Intn(4) {
			word = append(word, []int{0, 1, 15, 0, 1, 15, 16, -1}[rnd.Intn(8)])
		}
		want := -1
		rules := plainRules(n, far, 0, word)
		for rule := 15; rule >= 0; rule-- {
			if rules[rule] > 0 {
				want = rule
			}
		}
		if got := Match(n, word); got != want {
			t.Fatal(n, word, got, want)
		}
	}
}

// P6.3, rule 4: machines, states and words stay as they are; answers are new memory.
func TestMemory(t *testing.T) {
	n := build(t, cat(set(2), star(cat(set(16), set(2)))), set(2))
	was := copied(n)
	room := []int{13, 2, 10, 6, 77, 78, 79, 80, 81, 82, 83, 84}
	kept := slices.Clone(room)
	states := room[:4]
	for range 2 {
		got := Close(n, states...)
		if !slices.Equal(got, []int{2, 5, 6, 10, 11, 12, 13}) || !slices.Equal(room, kept) || !alike(n, was) {
			t.Fatal("Close", got)
		}
		scribble(got, -9)
		got = Step(n, states, 1)
		if !slices.Equal(got, []int{3, 14}) || !slices.Equal(room, kept) || !alike(n, was) {
			t.Fatal("Step", got)
		}
		scribble(got, -9)
		if Match(n, []int{1, 4, 1}) != 0 || !alike(n, was) {
			t.Fatal("Match")
		}
	}
	alone := []int{14}
	scribble(Close(n, alone...), -9) // what is closed already is told in new memory, too
	word := []int{1, 4, 1, 9}
	if Match(n, word[:3]) != 0 || !slices.Equal(word, []int{1, 4, 1, 9}) || alone[0] != 14 || !slices.Equal(room, kept) || !alike(n, was) {
		t.Error("something was changed")
	}
}

// tails are the places in a word up to which an expression has a word that begins at a place, by chapter 4.
func tails(r api.Regex, word []int, from int) []int {
	var out []int
	add := func(l ...int) {
		for _, at := range l {
			if !slices.Contains(out, at) {
				out = append(out, at)
			}
		}
	}
	switch r.Kind {
	case api.KindNil:
		add(from)
	case api.KindSet:
		if from < len(word) && word[from] >= 0 && word[from] <= 15 && r.Set&(1<<word[from]) != 0 {
			add(from + 1)
		}
	case api.KindCat:
		at := []int{from}
		for _, kid := range r.Kids {
			out = nil
			for _, begin := range at {
				add(tails(kid, word, begin)...)
			}
			at = out
		}
	case api.KindAlt:
		for _, kid := range r.Kids {
			add(tails(kid, word, from)...)
		}
	case api.KindStar:
		add(from)
		for i := 0; i < len(out); i++ {
			add(tails(r.Kids[0], word, out[i])...)
		}
	case api.KindOpt:
		add(from)
		add(tails(r.Kids[0], word, from)...)
	}
	return out
}

// least is the least of expressions that has a word; -1, if none has.
func least(l []api.Regex, word []int) int {
	return slices.IndexFunc(l, func(r api.Regex) bool { return slices.Contains(tails(r, word, 0), len(word)) })
}

// words are all words of at most n categories of some.
func words(n int, cats ...int) [][]int {
	out := [][]int{nil}
	for i := 0; i < len(out); i++ {
		if len(out[i]) < n {
			for _, c := range cats {
				out = append(out, append(slices.Clone(out[i]), c))
			}
		}
	}
	return out
}

// P6.4: all small expressions, alone, and all words of two categories.
func TestMatchSmall(t *testing.T) {
	all := words(4, 0, 15)
	for n := 1; n <= 4; n++ {
		for _, r := range small(n) {
			m := build(t, r)
			for _, word := range all {
				if got, want := Match(m, word), least([]api.Regex{r}, word); got != want {
					t.Fatal(r, word, got, want)
				}
			}
		}
	}
}

// P6.4: several rules at once, and all words of three categories, of one that no set has, and of numbers that are no categories.
func TestMatchSeveral(t *testing.T) {
	rnd := rand.New(rand.NewSource(64))
	all := append(words(5, 0, 7, 15), words(2, 0, 7, 15, 3, -1, 16)...)
	told := map[int]int{}
	for range 250 {
		var l []api.Regex
		for range 1 + rnd.Intn(api.MaxRules) {
			l = append(l, some(rnd, 1+rnd.Intn(30), 1+rnd.Intn(8)))
		}
		m := build(t, l...)
		for _, word := range all {
			got, want := Match(m, word), least(l, word)
			if got != want {
				t.Fatal(l, word, got, want)
			}
			told[got]++
		}
	}
	for rule := -1; rule < api.MaxRules; rule++ {
		if told[rule] == 0 {
			t.Error("never told:", rule)
		}
	}
}

// P6.4: each rule in its turn: a word that it and all behind it have.
func TestMatchLeast(t *testing.T) {
	var l []api.Regex
	for i := range api.MaxRules {
		l = append(l, set(1<<(i+1)-1))
	}
	n := build(t, l...)
	slices.Reverse(l)
	back := build(t, l...)
	for c := range api.MaxCats {
		if Match(n, []int{c}) != c || Match(back, []int{c}) != 0 {
			t.Error(c)
		}
	}
}

// P6.4: the greatest machine, by a long word.
func TestMatchGreat(t *testing.T) {
	n := build(t, slices.Repeat([]api.Regex{cat(full(api.MaxNodes-2, none()).Kids...)}, api.MaxRules)...)
	if Match(n, slices.Repeat([]int{0}, api.MaxNodes-2-api.MaxDeep)) != 0 || Match(n, slices.Repeat([]int{0}, 50000)) != -1 {
		t.Error("the greatest")
	}
	all := build(t, slices.Repeat([]api.Regex{full(api.MaxNodes, set(2))}, api.MaxRules)...)
	if Match(all, slices.Repeat([]int{1}, 2000)) != 0 || Match(all, []int{0}) != 0 || Match(all, []int{0, 1}) != -1 {
		t.Error("the greatest of stars")
	}
}
