package dfa

import (
	"math"
	"math/rand"
	"slices"
	"testing"

	"reedpen/api"
	"reedpen/nfa"
	"reedpen/regex"
)

func none() api.Regex { return api.Regex{} }

func set(s uint16) api.Regex { return api.Regex{Kind: api.KindSet, Set: s} }

func cat(l ...api.Regex) api.Regex { return api.Regex{Kind: api.KindCat, Kids: l} }

func alt(l ...api.Regex) api.Regex { return api.Regex{Kind: api.KindAlt, Kids: l} }

func star(r api.Regex) api.Regex { return api.Regex{Kind: api.KindStar, Kids: []api.Regex{r}} }

func opt(r api.Regex) api.Regex { return api.Regex{Kind: api.KindOpt, Kids: []api.Regex{r}} }

// chain is n of a set, one behind the other.
func chain(s uint16, n int) api.Regex { return cat(slices.Repeat([]api.Regex{set(s)}, n)...) }

// within is an expression that is n deeper.
func within(r api.Regex, n int, wrap func(api.Regex) api.Regex) api.Regex {
	for range n {
		r = wrap(r)
	}
	return r
}

// full has n nodes, is as deep as may be, and has last as its deepest node, behind all others.
func full(n int, last api.Regex) api.Regex {
	return alt(append(slices.Repeat([]api.Regex{set(1)}, n-api.MaxDeep), within(last, api.MaxDeep-2, star))...)
}

// doubling has a machine of at least 2^n states: which of the last n + 1 categories were 0.
func doubling(n int) api.Regex {
	return cat(append([]api.Regex{star(set(3)), set(1)}, slices.Repeat([]api.Regex{set(3)}, n)...)...)
}

// state is what a machine has at one: by which category it goes where, and its rule.
type state struct {
	next map[int]int
	rule int
}

// by is a state of no rule, that goes by categories to states, told in turn.
func by(steps ...int) state { return ends(-1, steps...) }

// ends is a state of a rule, that goes by categories to states, told in turn.
func ends(rule int, steps ...int) state {
	next := map[int]int{}
	for i := 0; i < len(steps); i += 2 {
		next[steps[i]] = steps[i+1]
	}
	return state{next, rule}
}

// machine is that of states.
func machine(l ...state) api.Dfa {
	var d api.Dfa
	for _, s := range l {
		var row [16]int
		for c := range row {
			row[c] = -1
			if to, ok := s.next[c]; ok {
				row[c] = to
			}
		}
		d.Next = append(d.Next, row)
		d.Rule = append(d.Rule, s.rule)
	}
	return d
}

// alike says whether two machines have the same states.
func alike(a, b api.Dfa) bool { return slices.Equal(a.Next, b.Next) && slices.Equal(a.Rule, b.Rule) }

// copied is a machine in memory of its own.
func copied(d api.Dfa) api.Dfa {
	return api.Dfa{Next: slices.Clone(d.Next), Rule: slices.Clone(d.Rule)}
}

// build is the machine of expressions that have one.
func build(t *testing.T, l ...api.Regex) api.Dfa {
	t.Helper()
	d, e := Build(l)
	if e != api.OK || !Right(d) {
		t.Fatal(l, e)
	}
	return d
}

// spread makes a set of states, told as one bool each, as great as free steps make it.
func spread(n api.Nfa, set []bool) {
	for grown := true; grown; {
		grown = false
		for s, in := range set {
			for _, to := range n.Free[s] {
				if in && !set[to] {
					set[to], grown = true, true
				}
			}
		}
	}
}

// plain is the machine by the chapter's words, all sets told as one bool each, and sought one by one; a zero one, if it has more than most states.
func plain(l []api.Regex, most int) api.Dfa {
	n, _ := nfa.Build(l)
	first := make([]bool, len(n.Free))
	first[0] = true
	spread(n, first)
	sets := [][]bool{first}
	var d api.Dfa
	for len(d.Next) < len(sets) {
		at := sets[len(d.Next)]
		var row [16]int
		for c := range row {
			to, any := make([]bool, len(n.Free)), false
			for s, in := range at {
				if in && n.Set[s]&(1<<c) != 0 {
					to[n.To[s]], any = true, true
				}
			}
			spread(n, to)
			row[c] = slices.IndexFunc(sets, func(set []bool) bool { return slices.Equal(set, to) })
			if any && row[c] < 0 {
				row[c] = len(sets)
				sets = append(sets, to)
			}
		}
		rule := -1
		for r := 15; r >= 0; r-- {
			for s, in := range at {
				if in && n.Rule[s] == r {
					rule = r
				}
			}
		}
		d.Next, d.Rule = append(d.Next, row), append(d.Rule, rule)
		if len(sets) > most {
			return api.Dfa{}
		}
	}
	return d
}

// small are all right expressions of n nodes whose sets are of two categories.
func small(n int) []api.Regex {
	if n == 1 {
		return []api.Regex{none(), set(1), set(1 << 15), set(1 | 1<<15)}
	}
	var out []api.Regex
	for _, kids := range lists(n - 1) {
		out = append(out, cat(kids...), alt(kids...))
		if len(kids) == 1 {
			out = append(out, star(kids[0]), opt(kids[0]))
		}
	}
	return out
}

// lists are all lists of such Kids with n nodes in all.
func lists(n int) [][]api.Regex {
	if n == 0 {
		return [][]api.Regex{nil}
	}
	var out [][]api.Regex
	for first := 1; first <= n; first++ {
		for _, kid := range small(first) {
			for _, rest := range lists(n - first) {
				out = append(out, append([]api.Regex{kid}, rest...))
			}
		}
	}
	return out
}

// size is how many nodes an expression has.
func size(r api.Regex) int {
	n := 1
	for _, kid := range r.Kids {
		n += size(kid)
	}
	return n
}

// some is a right expression of at most most nodes, at most deep deep, over the categories 0, 7 and 15.
func some(rnd *rand.Rand, most, deep int) api.Regex {
	if most < 2 || deep < 2 || rnd.Intn(4) == 0 {
		s := []uint16{1, 1 << 7, 1 << 15, 1 | 1<<7, 1<<7 | 1<<15, 1 | 1<<15}[rnd.Intn(6)]
		return []api.Regex{none(), set(s), set(s), set(s)}[rnd.Intn(4)]
	}
	r := api.Regex{Kind: byte(api.KindCat + rnd.Intn(4))}
	kids, left := 1, most-1
	if r.Kind <= api.KindAlt {
		kids = 1 + rnd.Intn(min(left, 4))
	}
	for i := range kids {
		kid := some(rnd, left-(kids-1-i), deep-1)
		r.Kids = append(r.Kids, kid)
		left -= size(kid)
	}
	return r
}

// someRules are 1 to 16 of them.
func someRules(rnd *rand.Rand, most, deep int) []api.Regex {
	var l []api.Regex
	for range 1 + rnd.Intn(api.MaxRules) {
		l = append(l, some(rnd, 1+rnd.Intn(most), 1+rnd.Intn(deep)))
	}
	return l
}

// P7.1: machines written out, state by state.
func TestBuildWrittenOut(t *testing.T) {
	var each []int
	for c := range 16 {
		each = append(each, c, 1)
	}
	a, b, c := set(1), set(2), set(4)
	for name, x := range map[string]struct {
		l    []api.Regex
		want api.Dfa
	}{
		"nothing":            {[]api.Regex{none()}, machine(ends(0))},
		"set":                {[]api.Regex{set(1 << 3)}, machine(by(3, 1), ends(0))},
		"set of two":         {[]api.Regex{set(1 | 1<<15)}, machine(by(0, 1, 15, 1), ends(0))},
		"all":                {[]api.Regex{set(0xFFFF)}, machine(by(each...), ends(0))},
		"cat of one":         {[]api.Regex{cat(a)}, machine(by(0, 1), ends(0))},
		"cat of two":         {[]api.Regex{cat(b, c)}, machine(by(1, 1), by(2, 2), ends(0))},
		"cat of three":       {[]api.Regex{cat(a, none(), a)}, machine(by(0, 1), by(0, 2), ends(0))},
		"alt of one":         {[]api.Regex{alt(a)}, machine(by(0, 1), ends(0))},
		"alt of two":         {[]api.Regex{alt(b, c)}, machine(by(1, 1, 2, 2), ends(0), ends(0))},
		"alt of twins":       {[]api.Regex{alt(b, b)}, machine(by(1, 1), ends(0))},
		"alt, one in both":   {[]api.Regex{alt(set(3), set(6))}, machine(by(0, 1, 1, 2, 2, 3), ends(0), ends(0), ends(0))},
		"alt with nothing":   {[]api.Regex{alt(none(), b)}, machine(ends(0, 1, 1), ends(0))},
		"star":               {[]api.Regex{star(b)}, machine(ends(0, 1, 1), ends(0, 1, 1))},
		"star of nothing":    {[]api.Regex{star(none())}, machine(ends(0))},
		"star of star":       {[]api.Regex{star(star(b))}, machine(ends(0, 1, 1), ends(0, 1, 1))},
		"opt":                {[]api.Regex{opt(b)}, machine(ends(0, 1, 1), ends(0))},
		"opt of nothing":     {[]api.Regex{opt(none())}, machine(ends(0))},
		"opt of star":        {[]api.Regex{opt(star(b))}, machine(ends(0, 1, 1), ends(0, 1, 1))},
		"star of cat":        {[]api.Regex{star(cat(a, b))}, machine(ends(0, 0, 1), by(1, 2), ends(0, 0, 1))},
		"star of alt":        {[]api.Regex{star(alt(a, b))}, machine(ends(0, 0, 1, 1, 2), ends(0, 0, 1, 1, 2), ends(0, 0, 1, 1, 2))},
		"star of opt":        {[]api.Regex{star(opt(a))}, machine(ends(0, 0, 1), ends(0, 0, 1))},
		"star ahead":         {[]api.Regex{cat(star(a), a)}, machine(by(0, 1), ends(0, 0, 1))},
		"star behind":        {[]api.Regex{cat(a, star(a))}, machine(by(0, 1), ends(0, 0, 2), ends(0, 0, 2))},
		"opt between":        {[]api.Regex{cat(a, opt(b), c)}, machine(by(0, 1), by(1, 2, 2, 3), by(2, 3), ends(0))},
		"cats of alts":       {[]api.Regex{cat(alt(a, b), c)}, machine(by(0, 1, 1, 2), by(2, 3), by(2, 3), ends(0))},
		"the example":        {[]api.Regex{cat(set(2), star(cat(set(16), set(2))))}, machine(by(1, 1), ends(0, 4, 2), by(1, 3), ends(0, 4, 2))},
		"by the categories":  {[]api.Regex{alt(set(1<<15), set(1<<2), set(1<<9), set(1))}, machine(by(0, 1, 2, 2, 9, 3, 15, 4), ends(0), ends(0), ends(0), ends(0))},
		"state by state":     {[]api.Regex{alt(chain(4, 2), chain(2, 3), cat(a, c))}, machine(by(0, 1, 1, 2, 2, 3), by(2, 4), by(1, 5), by(2, 6), ends(0), by(1, 7), ends(0), ends(0))},
		"back to the first":  {[]api.Regex{star(cat(a, a))}, machine(ends(0, 0, 1), by(0, 2), ends(0, 0, 1))},
		"two rules":          {[]api.Regex{c, b}, machine(by(1, 1, 2, 2), ends(1), ends(0))},
		"twin rules":         {[]api.Regex{b, b}, machine(by(1, 1), ends(0))},
		"the lesser wins":    {[]api.Regex{set(6), set(3)}, machine(by(0, 1, 1, 2, 2, 3), ends(1), ends(0), ends(0))},
		"nothing and one":    {[]api.Regex{a, none()}, machine(ends(1, 0, 1), ends(0))},
		"nothing, twice":     {[]api.Regex{opt(a), none()}, machine(ends(0, 0, 1), ends(0))},
		"a rule on the way":  {[]api.Regex{chain(1, 3), a}, machine(by(0, 1), ends(1, 0, 2), by(0, 3), ends(0))},
		"three rules":        {[]api.Regex{cat(a, b), star(a), set(3)}, machine(ends(1, 0, 1, 1, 2), ends(1, 0, 3, 1, 4), ends(2), ends(1, 0, 3), ends(0))},
		"sets, not what for": {[]api.Regex{alt(cat(a, star(b)), cat(b, star(b)))}, machine(by(0, 1, 1, 2), ends(0, 1, 3), ends(0, 1, 4), ends(0, 1, 3), ends(0, 1, 4))},
	} {
		d, e := Build(x.l)
		if e != api.OK || !alike(d, x.want) {
			t.Error(name, d, e)
		}
		if !Right(d) {
			t.Error(name, "isn't right")
		}
		if !alike(plain(x.l, api.MaxStates), x.want) {
			t.Error(name, "the plain one is unlike")
		}
	}
}

// P7.1: all small expressions, alone; many great ones, several at once: held against what the chapter's words make.
func TestBuildPlain(t *testing.T) {
	for n := 1; n <= 4; n++ {
		for _, r := range small(n) {
			if got := build(t, r); !alike(got, plain([]api.Regex{r}, api.MaxStates)) {
				t.Fatal(r, got)
			}
		}
	}
	rnd := rand.New(rand.NewSource(7))
	built, great := 0, 0
	for range 250 {
		l := someRules(rnd, 40, api.MaxDeep)
		d, e := Build(l)
		want := plain(l, api.MaxStates)
		if !alike(d, want) || (e == api.OK) != (len(want.Next) > 0) || e != api.OK && e != api.ErrBig {
			t.Fatal(l, d, e)
		}
		if e == api.OK {
			built++
		} else {
			great++
		}
	}
	if built < 20 || great < 3 {
		t.Error("too few of either", built, great)
	}
}

// refused says if a machine was made of what has none.
func refused(t *testing.T, name string, want api.Errno, d api.Dfa, e api.Errno) {
	t.Helper()
	if e != want || len(d.Next)+len(d.Rule) != 0 {
		t.Error(name, len(d.Next), len(d.Rule), e)
	}
}

// P7.1: how many expressions there may be.
func TestBuildLists(t *testing.T) {
	one := set(1)
	for name, l := range map[string][]api.Regex{
		"nil": nil, "none": {}, "none, with spare room": make([]api.Regex, 0, 4),
		"seventeen": slices.Repeat([]api.Regex{one}, 17), "very many": slices.Repeat([]api.Regex{one}, 100000),
	} {
		d, e := Build(l)
		refused(t, name, api.ErrArg, d, e)
	}
	if !alike(build(t, one), machine(by(0, 1), ends(0))) {
		t.Error("one")
	}
	if !alike(build(t, slices.Repeat([]api.Regex{one}, 16)...), machine(by(0, 1), ends(0))) {
		t.Error("sixteen twins")
	}
	var l []api.Regex
	want := []state{by()}
	for i := range 16 {
		l = append(l, set(1<<i))
		want[0].next[i] = i + 1
		want = append(want, ends(i))
	}
	if !alike(build(t, l...), machine(want...)) {
		t.Error("sixteen")
	}
}

// wrongOnes are expressions that aren't right.
func wrongOnes() map[string]api.Regex {
	one := []api.Regex{set(1)}
	itself := []api.Regex{{Kind: api.KindStar}}
	itself[0].Kids = itself
	doubled := set(1)
	for range 60 {
		doubled = alt(doubled, doubled)
	}
	return map[string]api.Regex{
		"nothing with a set": {Kind: api.KindNil, Set: 1},
		"set of none":        {Kind: api.KindSet},
		"set with a kid":     {Kind: api.KindSet, Set: 1, Kids: one},
		"cat of none":        {Kind: api.KindCat},
		"alt with a set":     {Kind: api.KindAlt, Set: 1, Kids: one},
		"star of none":       {Kind: api.KindStar},
		"opt of two":         {Kind: api.KindOpt, Kids: []api.Regex{set(1), set(2)}},
		"no kind":            {Kind: 6},
		"wrong within":       cat(set(1), star(opt(api.Regex{Kind: api.KindSet}))),
		"a node too many":    full(api.MaxNodes+1, set(1)),
		"too deep":           within(set(1), api.MaxDeep, opt),
		"2^60 nodes":         doubled,
		"itself":             itself[0],
	}
}

// P7.1: one that isn't right, alone and in each place among right ones; it is told ahead of a machine that is too big.
func TestBuildWrong(t *testing.T) {
	for name, r := range wrongOnes() {
		for most := 1; most <= api.MaxRules; most++ {
			for at := range most {
				l := slices.Repeat([]api.Regex{set(1)}, most)
				l[at] = r
				d, e := Build(l)
				refused(t, name, api.ErrArg, d, e)
			}
		}
		d, e := Build([]api.Regex{doubling(20), r})
		refused(t, name, api.ErrArg, d, e)
	}
	d, e := Build(slices.Repeat([]api.Regex{doubling(20)}, 17))
	refused(t, "too many, too big", api.ErrArg, d, e)
}

// P7.1: just as many states as there may be, and one more; found one at a time, or several at once.
func TestBuildMost(t *testing.T) {
	var wide []api.Regex
	for i := range 15 {
		wide = append(wide, chain(1<<i, 13)) // 195 states, and the first
	}
	late := cat(chain(2, 93), alt(set(2), set(4), set(8))) // its last three states are found at once
	for name, x := range map[string]struct {
		l      []api.Regex
		states int
	}{
		"a chain":           {[]api.Regex{chain(1, 99)}, 100},
		"two chains":        {[]api.Regex{chain(1, 99), chain(2, 98)}, 198},
		"one less":          {[]api.Regex{chain(1, 99), chain(2, 99)}, 199},
		"just as many":      {[]api.Regex{chain(1, 99), chain(2, 99), set(4)}, 200},
		"one more":          {[]api.Regex{chain(1, 99), chain(2, 99), chain(4, 2)}, 0},
		"one more, wide":    {[]api.Regex{chain(1, 99), chain(2, 99), set(4), set(8)}, 0},
		"wide, as many":     {append(slices.Clone(wide), chain(1<<15, 4)), 200},
		"wide, one more":    {append(slices.Clone(wide), chain(1<<15, 5)), 0},
		"late, as many":     {[]api.Regex{chain(1, 90), late, chain(4, 13)}, 200},
		"late, one more":    {[]api.Regex{chain(1, 90), late, chain(4, 14)}, 0},
		"doubling, 64":      {[]api.Regex{doubling(5)}, 65},
		"doubling, 128":     {[]api.Regex{doubling(6)}, 129},
		"doubling, 256":     {[]api.Regex{doubling(7)}, 0},
		"doubling, 2^80":    {[]api.Regex{doubling(80)}, 0},
		"doubling, 2^95":    {slices.Repeat([]api.Regex{doubling(95)}, 16), 0},
		"all nodes, deep":   {slices.Repeat([]api.Regex{full(api.MaxNodes, set(2))}, 16), 3},
		"all nodes, chains": {slices.Repeat([]api.Regex{chain(0xFFFF, 99)}, 16), 100},
	} {
		d, e := Build(x.l)
		if x.states == 0 {
			refused(t, name, api.ErrBig, d, e)
			continue
		}
		if e != api.OK || !Right(d) || len(d.Next) != x.states || len(d.Rule) != x.states {
			t.Error(name, e, len(d.Next), len(d.Rule))
		}
		if !alike(d, plain(x.l, api.MaxStates)) {
			t.Error(name, "is unlike the plain one")
		}
	}
}

// P7.1: sets whose numbers, written one behind the other without a gap, are one text: {2, 4} and {24}.
func TestBuildTexts(t *testing.T) {
	l := slices.Repeat([]api.Regex{set(1 << 15)}, 15)
	l[0], l[1], l[11] = set(1), set(1), set(2)
	if d := build(t, l...); !alike(d, machine(by(0, 1, 1, 2, 15, 3), ends(0), ends(11), ends(2))) {
		t.Error(d)
	}
}

// P7.1: the rows of a machine of just as many states as there may be.
func TestBuildMostRows(t *testing.T) {
	d := build(t, chain(1, 99), chain(2, 99), set(4))
	want := []state{by(0, 1, 1, 2, 2, 3), by(0, 4), by(1, 5), ends(2)}
	for i := 4; i < 198; i++ {
		want = append(want, by(i%2, i+2))
	}
	want = append(want, ends(0), ends(1))
	if !alike(d, machine(want...)) {
		t.Error(d)
	}
}

// scribble writes over all of a list, spare room included.
func scribble[T any](l []T, v T) {
	l = l[:cap(l)]
	for i := range l {
		l[i] = v
	}
}

// P7.1, rule 4: expressions stay as they are; a machine is new memory.
func TestBuildMemory(t *testing.T) {
	fresh := func() []api.Regex {
		return []api.Regex{cat(set(2), star(alt(set(4), opt(set(8)))), none()), full(40, set(2)), alt(set(2), set(4), set(8))}
	}
	l := append(fresh(), set(99))[:3]
	want := plain(fresh(), api.MaxStates)
	for range 3 {
		d := build(t, l...)
		if !alike(d, want) {
			t.Fatal(d)
		}
		if !slices.EqualFunc(l, fresh(), regex.Same) || !regex.Same(l[:4][3], set(99)) {
			t.Fatal("what was handed in was changed")
		}
		scribble(d.Rule, 77)
		if !slices.Equal(d.Next, want.Next) {
			t.Error("lists share memory")
		}
		scribble(d.Next, [16]int{78})
		if slices.Contains(d.Rule, 78) {
			t.Error("lists share memory")
		}
	}
}

// wide is a machine of n states without steps.
func wide(n int) api.Dfa { return machine(slices.Repeat([]state{by()}, n)...) }

// P7.2: how many states there may be.
func TestRightStates(t *testing.T) {
	for n, want := range map[int]bool{0: false, 1: true, 2: true, 199: true, 200: true, 201: false, 202: false, 50000: false} {
		d := wide(n)
		if Right(d) != want {
			t.Error(n)
		}
		if !want {
			shut(t, d)
		}
	}
	if Right(api.Dfa{}) || Right(api.Dfa{Next: [][16]int{}, Rule: []int{}}) {
		t.Error("none")
	}
}

// shut says if anything is told of a machine that may not be.
func shut(t *testing.T, d api.Dfa) {
	t.Helper()
	for _, word := range [][]int{nil, {}, {0}, {1}, {0, 1, 15}, {15, 15}, {-1}, {16}} {
		if got := Run(d, word); got != -1 {
			t.Error("Run", word, got)
		}
		if got := Match(d, word); got != -1 {
			t.Error("Match", word, got)
		}
		for from := -1; from <= len(word)+1; from++ {
			if end, rule := Longest(d, word, from); end != -1 || rule != -1 {
				t.Error("Longest", word, from, end, rule)
			}
		}
	}
}

// P7.2: lists of unlike lengths.
func TestRightLengths(t *testing.T) {
	for _, states := range []int{1, 2, 5, 199, 200} {
		for _, other := range []int{0, states - 1, states + 1, 2 * states} {
			d := api.Dfa{Next: make([][16]int, states), Rule: make([]int, other)}
			if Right(d) {
				t.Error(states, "states", other, "rules")
			}
			shut(t, d)
			d = api.Dfa{Next: make([][16]int, other), Rule: make([]int, states)}
			if Right(d) {
				t.Error(other, "states", states, "rules")
			}
			shut(t, d)
		}
	}
	room := api.Dfa{Next: make([][16]int, 2, 3), Rule: make([]int, 3)}
	if Right(room) || !Right(api.Dfa{Next: room.Next[:3], Rule: room.Rule}) {
		t.Error("spare room was counted")
	}
}

// P7.2: Next, at each state and category, and Rule, at each state, at their bounds; nothing is told of those that may not be.
func TestRightValues(t *testing.T) {
	for _, states := range []int{1, 2, 4, 200} {
		var base api.Dfa
		for i := range states {
			var row [16]int
			for c := range row {
				row[c] = (i + c) % states
			}
			base.Next, base.Rule = append(base.Next, row), append(base.Rule, i%16)
		}
		if !Right(base) {
			t.Fatal("the base", states)
		}
		for at := range states {
			for v, want := range map[int]bool{math.MinInt: false, -200: false, -2: false, -1: true, 0: true, states - 1: true, states: false, states + 1: false, math.MaxInt: false} {
				for c := range 16 {
					d := copied(base)
					d.Next[at][c] = v
					if Right(d) != want {
						t.Error(states, at, c, v)
					}
					if !want && at%50 == 0 {
						shut(t, d)
					}
				}
			}
			for v, want := range map[int]bool{math.MinInt: false, -3: false, -2: false, -1: true, 0: true, 15: true, 16: false, 17: false, math.MaxInt: false} {
				d := copied(base)
				d.Rule[at] = v
				if Right(d) != want {
					t.Error(states, at, v)
				}
				if !want && at%50 == 0 {
					shut(t, d)
				}
			}
		}
	}
}

// P7.2: states that nothing comes to, and circles, may be.
func TestRightOthers(t *testing.T) {
	for name, d := range map[string]api.Dfa{
		"to itself":    machine(by(0, 0, 15, 0)),
		"come to none": machine(by(), ends(3, 1, 2), ends(15, 1, 0)),
		"a circle":     machine(by(0, 1), by(0, 2), ends(0, 0, 0)),
		"zeros":        {Next: make([][16]int, 3), Rule: make([]int, 3)},
	} {
		if !Right(d) {
			t.Error(name)
		}
	}
}

// P7.2: Run and Match, written out.
func TestRunWrittenOut(t *testing.T) {
	example := machine(by(1, 1), ends(0, 4, 2), by(1, 3), ends(0, 4, 2))
	other := machine(ends(7, 0, 0, 15, 2, 3, 1), by(3, 1, 0, 0), ends(15, 15, 0, 7, 1))
	for name, x := range map[string]struct {
		d           api.Dfa
		word        []int
		state, rule int
	}{
		"nil":                 {example, nil, 0, -1},
		"empty":               {example, []int{}, 0, -1},
		"C":                   {example, []int{1}, 1, 0},
		"CH":                  {example, []int{1, 4}, 2, -1},
		"CHC":                 {example, []int{1, 4, 1}, 3, 0},
		"CHCH":                {example, []int{1, 4, 1, 4}, 2, -1},
		"CHCHC":               {example, []int{1, 4, 1, 4, 1}, 3, 0},
		"H":                   {example, []int{4}, -1, -1},
		"CC":                  {example, []int{1, 1}, -1, -1},
		"nowhere, and on":     {example, []int{1, 1, 4, 1}, -1, -1},
		"O":                   {example, []int{0}, -1, -1},
		"-1":                  {example, []int{-1}, -1, -1},
		"16":                  {example, []int{16}, -1, -1},
		"-1 in the end":       {example, []int{1, -1}, -1, -1},
		"16 in the end":       {example, []int{1, 16}, -1, -1},
		"17, not 1":           {example, []int{17}, -1, -1},
		"the least":           {example, []int{math.MinInt}, -1, -1},
		"the greatest":        {example, []int{math.MaxInt}, -1, -1},
		"a rule at once":      {other, nil, 0, 7},
		"to itself":           {other, []int{0, 0, 0}, 0, 7},
		"no rule":             {other, []int{0, 3, 3}, 1, -1},
		"back":                {other, []int{3, 0}, 0, 7},
		"the last category":   {other, []int{15}, 2, 15},
		"twice":               {other, []int{15, 15}, 0, 7},
		"by the third":        {other, []int{15, 7}, 1, -1},
		"-1 between":          {other, []int{0, -1, 0}, -1, -1},
		"16 between":          {other, []int{0, 16, 0}, -1, -1},
		"zeros":               {api.Dfa{Next: make([][16]int, 1), Rule: make([]int, 1)}, []int{5, 6, 15, 0}, 0, 0},
		"zeros, no category":  {api.Dfa{Next: make([][16]int, 1), Rule: make([]int, 1)}, []int{5, 16, 15, 0}, -1, -1},
		"one without rule":    {wide(1), nil, 0, -1},
		"one that goes none":  {wide(1), []int{0}, -1, -1},
		"nothing, of a state": {machine(ends(15)), nil, 0, 15},
	} {
		if got := Run(x.d, x.word); got != x.state {
			t.Error(name, "Run", got)
		}
		if got := Match(x.d, x.word); got != x.rule {
			t.Error(name, "Match", got)
		}
	}
}

// P7.3: Longest, written out.
func TestLongestWrittenOut(t *testing.T) {
	const C, H, O = 1, 4, 0
	example := machine(by(C, 1), ends(0, H, 2), by(C, 3), ends(0, H, 2))
	far := machine(by(C, 1), ends(3, C, 2), by(C, 4), ends(9), by(C, 5), ends(1, H, 4)) // rules behind 1, 4, and 6 categories
	empty := machine(ends(5))
	both := machine(ends(5, C, 1), by(C, 2), ends(2, C, 0))
	for name, x := range map[string]struct {
		d               api.Dfa
		word            []int
		from, end, rule int
	}{
		"the example":            {example, []int{C, H, C, H}, 0, 3, 0},
		"all of it":              {example, []int{C, H, C}, 0, 3, 0},
		"the first alone":        {example, []int{C, C, H, C}, 0, 1, 0},
		"from the second":        {example, []int{C, C, H, C}, 1, 4, 0},
		"from one without":       {example, []int{C, C, H, C}, 2, -1, -1},
		"from the last":          {example, []int{C, C, H, C}, 3, 4, 0},
		"from the end":           {example, []int{C, C, H, C}, 4, -1, -1},
		"from behind the end":    {example, []int{C, C, H, C}, 5, -1, -1},
		"from -1":                {example, []int{C, C, H, C}, -1, -1, -1},
		"from the least":         {example, []int{C}, math.MinInt, -1, -1},
		"from the greatest":      {example, []int{C}, math.MaxInt, -1, -1},
		"into spare room":        {example, []int{C, C, C}[:1], 2, -1, -1},
		"at spare room":          {example, []int{C, C, C}[:1], 1, -1, -1},
		"no more than the word":  {example, []int{C, H, C}[:2], 0, 1, 0},
		"none at all":            {example, []int{H, C}, 0, -1, -1},
		"gets on, without end":   {machine(by(C, 1), by(H, 0)), []int{C, H, C}, 0, -1, -1},
		"empty":                  {example, nil, 0, -1, -1},
		"empty, from 1":          {example, nil, 1, -1, -1},
		"empty, from -1":         {example, []int{}, -1, -1, -1},
		"-1":                     {example, []int{C, -1, C}, 0, 1, 0},
		"16":                     {example, []int{C, 16, C}, 0, 1, 0},
		"-1 first":               {example, []int{-1, C}, 0, -1, -1},
		"16 first":               {example, []int{16, C}, 0, -1, -1},
		"behind -1":              {example, []int{-1, C}, 1, 2, 0},
		"behind 16":              {example, []int{16, C, H}, 1, 2, 0},
		"first of several":       {far, []int{C}, 0, 1, 3},
		"none behind the first":  {far, []int{C, C}, 0, 1, 3},
		"nor behind that":        {far, []int{C, C, C}, 0, 1, 3},
		"behind places of none":  {far, []int{C, C, C, C}, 0, 4, 1},
		"a lesser rule, later":   {far, []int{C, C, C, C, H}, 0, 4, 1},
		"the last of several":    {far, []int{C, C, C, C, H, C}, 0, 6, 1},
		"the last, and on":       {far, []int{O, C, C, C, C, H, C, O, C}, 1, 7, 1},
		"nothing alone":          {empty, nil, 0, -1, -1},
		"nothing alone, of some": {empty, []int{C, C}, 0, -1, -1},
		"nothing alone, the end": {empty, []int{C, C}, 2, -1, -1},
		"nothing, and three":     {both, []int{C, C}, 0, 2, 2},
		"back to the beginning":  {both, []int{C, C, C, C}, 0, 3, 5},
		"nothing, and not one":   {both, []int{C}, 0, -1, -1},
		"zeros":                  {api.Dfa{Next: make([][16]int, 1), Rule: make([]int, 1)}, []int{9, 15, 0, 16, 3}, 1, 3, 0},
	} {
		if end, rule := Longest(x.d, x.word, x.from); end != x.end || rule != x.rule {
			t.Error(name, end, rule)
		}
	}
}

// anyMachine is one that may be.
func anyMachine(rnd *rand.Rand) api.Dfa {
	states := 1 + rnd.Intn(6)
	if rnd.Intn(10) == 0 {
		states = api.MaxStates - rnd.Intn(3)
	}
	var d api.Dfa
	for range states {
		var row [16]int
		for c := range row {
			row[c] = rnd.Intn(states+1) - 1
		}
		d.Next, d.Rule = append(d.Next, row), append(d.Rule, max(-1, rnd.Intn(32)-16))
	}
	return d
}

// anyWord is one of categories, a few others among them.
func anyWord(rnd *rand.Rand) []int {
	var word []int
	for range rnd.Intn(12) {
		c := rnd.Intn(16)
		if rnd.Intn(30) == 0 {
			c = []int{-1, 16, -16, 32, math.MaxInt}[rnd.Intn(5)]
		}
		word = append(word, c)
	}
	return word
}

// behind is the state behind a word, from its last category back: where the word without it leads, and on from there.
func behind(d api.Dfa, word []int) int {
	if len(word) == 0 {
		return 0
	}
	at, last := behind(d, word[:len(word)-1]), word[len(word)-1]
	if at < 0 || last < 0 || last > 15 {
		return -1
	}
	return d.Next[at][last]
}

// ruleBehind is the rule of that state.
func ruleBehind(d api.Dfa, word []int) int {
	if at := behind(d, word); at >= 0 {
		return d.Rule[at]
	}
	return -1
}

// P7.2, P7.3: any machines and words, from anywhere, held against what the chapter's words say.
func TestAnyMachines(t *testing.T) {
	rnd := rand.New(rand.NewSource(72))
	for range 20000 {
		d, word := anyMachine(rnd), anyWord(rnd)
		if !Right(d) {
			t.Fatal(d)
		}
		if got := Run(d, word); got != behind(d, word) {
			t.Fatal("Run", d, word, got)
		}
		if got := Match(d, word); got != ruleBehind(d, word) {
			t.Fatal("Match", d, word, got)
		}
		for from := -2; from <= len(word)+2; from++ {
			end, rule := -1, -1
			for place := from + 1; from >= 0 && place <= len(word); place++ {
				if r := ruleBehind(d, word[from:place]); r >= 0 {
					end, rule = place, r
				}
			}
			if gotEnd, gotRule := Longest(d, word, from); gotEnd != end || gotRule != rule {
				t.Fatal("Longest", d, word, from, gotEnd, gotRule)
			}
		}
	}
}

// P7.2, P7.3: long words.
func TestLong(t *testing.T) {
	d := build(t, star(cat(set(1), set(2))))
	word := slices.Repeat([]int{0, 1}, 500000)
	if Run(d, word) != 2 || Match(d, word) != 0 || Run(d, word[1:]) != -1 || Match(d, word[:len(word)-1]) != -1 {
		t.Error("Run, Match")
	}
	if end, rule := Longest(d, word[:999999], 2); end != 999998 || rule != 0 {
		t.Error("Longest", end, rule)
	}
}

// P7.2, P7.3, rule 4: machines and words stay as they are.
func TestMemory(t *testing.T) {
	d := build(t, cat(set(2), star(cat(set(16), set(2)))))
	room := api.Dfa{Next: append(slices.Clone(d.Next), [16]int{99}), Rule: append(slices.Clone(d.Rule), 99)}
	wasRoom := copied(room)
	cut := api.Dfa{Next: room.Next[:len(d.Next)], Rule: room.Rule[:len(d.Rule)]}
	word := []int{1, 4, 1, 4, 9, 9}
	for range 2 {
		end, rule := Longest(cut, word[:4], 0)
		if !Right(cut) || Run(cut, word[:4]) != 2 || Match(cut, word[:3]) != 0 || end != 3 || rule != 0 {
			t.Error("the example")
		}
		if !alike(room, wasRoom) || !slices.Equal(word, []int{1, 4, 1, 4, 9, 9}) {
			t.Error("something was changed")
		}
	}
}

// tails are the places in a word up to which an expression has a word that begins at a place, by chapter 4.
func tails(r api.Regex, word []int, from int) []int {
	var out []int
	add := func(l ...int) {
		for _, at := range l {
			if !slices.Contains(out, at) {
				out = append(out, at)
			}
		}
	}
	switch r.Kind {
	case api.KindNil:
		add(from)
	case api.KindSet:
		if from < len(word) && word[from] >= 0 && word[from] <= 15 && r.Set&(1<<word[from]) != 0 {
			add(from + 1)
		}
	case api.KindCat:
		at := []int{from}
		for _, kid := range r.Kids {
			out = nil
			for _, begin := range at {
				add(tails(kid, word, begin)...)
			}
			at = out
		}
	case api.KindAlt:
		for _, kid := range r.Kids {
			add(tails(kid, word, from)...)
		}
	case api.KindStar:
		add(from)
		for i := 0; i < len(out); i++ {
			add(tails(r.Kids[0], word, out[i])...)
		}
	case api.KindOpt:
		add(from)
		add(tails(r.Kids[0], word, from)...)
	}
	return out
}

// words are all words of at most n categories of some.
func words(n int, cats ...int) [][]int {
	out := [][]int{nil}
	for i := 0; i < len(out); i++ {
		if len(out[i]) < n {
			for _, c := range cats {
				out = append(out, append(slices.Clone(out[i]), c))
			}
		}
	}
	return out
}

// byWords holds Match of a word, and Longest from each place of it, against what chapter 4 says; it tells what Match and Longest told as rules.
func byWords(t *testing.T, l []api.Regex, d api.Dfa, word []int) (int, int) {
	t.Helper()
	leasts := func(from int) []int { // of each place the least rule that has the word from from up to there
		out := slices.Repeat([]int{-1}, len(word)+1)
		for rule := len(l) - 1; rule >= 0; rule-- {
			for _, place := range tails(l[rule], word, from) {
				out[place] = rule
			}
		}
		return out
	}
	got, want := Match(d, word), leasts(0)[len(word)]
	if got != want {
		t.Fatal(l, word, "Match", got, want)
	}
	first := -1
	for from := range len(word) + 1 {
		end, rule := -1, -1
		for place, r := range leasts(from) {
			if place > from && r >= 0 {
				end, rule = place, r
			}
		}
		gotEnd, gotRule := Longest(d, word, from)
		if gotEnd != end || gotRule != rule {
			t.Fatal(l, word, from, "Longest", gotEnd, gotRule, end, rule)
		}
		if from == 0 {
			first = gotRule
		}
	}
	return got, first
}

// P7.4: all small expressions, alone, and all words of two categories.
func TestWordsSmall(t *testing.T) {
	all := words(4, 0, 15)
	for n := 1; n <= 4; n++ {
		for _, r := range small(n) {
			d := build(t, r)
			for _, word := range all {
				byWords(t, []api.Regex{r}, d, word)
			}
		}
	}
}

// P7.4: several rules at once, and all words of three categories, of one that no set has, and of numbers that are no categories.
func TestWordsSeveral(t *testing.T) {
	rnd := rand.New(rand.NewSource(74))
	all := append(words(4, 0, 7, 15), words(2, 0, 7, 15, 3, -1, 16)...)
	matched, longest := map[int]int{}, map[int]int{}
	for built := 0; built < 250; {
		l := someRules(rnd, 20, 7)
		d, e := Build(l)
		if e == api.ErrBig {
			continue
		}
		built++
		for _, word := range all {
			rule, first := byWords(t, l, d, word)
			matched[rule]++
			longest[first]++
		}
	}
	for rule := -1; rule < api.MaxRules; rule++ {
		if matched[rule] == 0 || longest[rule] == 0 {
			t.Error("never told:", rule, matched[rule], longest[rule])
		}
	}
}

// P7.4: each rule in its turn: a word that it and all behind it have.
func TestWordsLeast(t *testing.T) {
	var l []api.Regex
	for i := range api.MaxRules {
		l = append(l, set(1<<(i+1)-1))
	}
	d := build(t, l...)
	slices.Reverse(l)
	back := build(t, l...)
	for c := range api.MaxCats {
		end, rule := Longest(d, []int{c, c}, 0)
		if Match(d, []int{c}) != c || Match(back, []int{c}) != 0 || end != 1 || rule != c {
			t.Error(c, end, rule)
		}
	}
}

// P7.4: the least rule of the longest beginning, even if a lesser one has a shorter one.
func TestWordsLongestFirst(t *testing.T) {
	d := build(t, set(2), chain(2, 4), cat(star(set(2)), set(2)), chain(2, 2))
	for long, want := range []int{-1, 0, 2, 2, 1, 2} {
		word := append(slices.Repeat([]int{1}, long), 0)
		end, rule := Longest(d, word, 0)
		if Match(d, word[:long]) != want || rule != want || long > 0 && end != long || long == 0 && end != -1 {
			t.Error(long, end, rule)
		}
	}
}
