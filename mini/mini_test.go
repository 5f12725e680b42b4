package mini

import (
	"math"
	"math/rand"
	"slices"
	"strconv"
	"testing"

	"reedpen/api"
	"reedpen/dfa"
	"reedpen/rules"
)

// state is what a machine has at one: by which category it goes where, and its rule.
type state struct {
	next map[int]int
	rule int
}

// by is a state of no rule, that goes by categories to states, told in turn.
func by(steps ...int) state { return ends(-1, steps...) }

// ends is a state of a rule, that goes by categories to states, told in turn.
func ends(rule int, steps ...int) state {
	next := map[int]int{}
	for i := 0; i < len(steps); i += 2 {
		next[steps[i]] = steps[i+1]
	}
	return state{next, rule}
}

// machine is that of states.
func machine(l ...state) api.Dfa {
	var d api.Dfa
	for _, s := range l {
		var row [16]int
		for c := range row {
			row[c] = -1
			if to, ok := s.next[c]; ok {
				row[c] = to
			}
		}
		d.Next = append(d.Next, row)
		d.Rule = append(d.Rule, s.rule)
	}
	return d
}

// made is a machine of n states, each told by its number.
func made(n int, each func(i int) state) api.Dfa {
	var l []state
	for i := range n {
		l = append(l, each(i))
	}
	return machine(l...)
}

// grammar is the machine of a grammar's rules.
func grammar(t *testing.T, text string) api.Dfa {
	t.Helper()
	l, line, e := rules.Parse(text)
	if e != api.OK {
		t.Fatal(text, line, e)
	}
	var all []api.Regex
	for _, r := range l {
		all = append(all, r.Regex)
	}
	d, e := dfa.Build(all)
	if e != api.OK {
		t.Fatal(text, e)
	}
	return d
}

// equal says whether two machines have the same states, by the same numbers.
func equal(a, b api.Dfa) bool { return slices.Equal(a.Next, b.Next) && slices.Equal(a.Rule, b.Rule) }

// copied is a machine in memory of its own.
func copied(d api.Dfa) api.Dfa {
	return api.Dfa{Next: slices.Clone(d.Next), Rule: slices.Clone(d.Rule)}
}

// renamed is a machine whose states have other numbers, the state 0 alone its own.
func renamed(rnd *rand.Rand, d api.Dfa) api.Dfa {
	names := append([]int{0}, rnd.Perm(len(d.Next)-1)...)
	for i := range names[1:] {
		names[i+1]++
	}
	out := copied(d)
	for s, row := range d.Next {
		for c, to := range row {
			if to >= 0 {
				row[c] = names[to]
			}
		}
		out.Next[names[s]], out.Rule[names[s]] = row, d.Rule[s]
	}
	return out
}

// blown is a machine that matches the same, each of whose states stands several times; where one was gone to, any of them is. Dead states are put where it went nowhere, and others that nothing comes to behind all.
func blown(rnd *rand.Rand, d api.Dfa, times int) api.Dfa {
	n := len(d.Next)
	bottom := n * times
	var out api.Dfa
	for i := range bottom {
		row := d.Next[i%n]
		for c, to := range row {
			if to >= 0 {
				row[c] = to + n*rnd.Intn(times)
			} else if rnd.Intn(3) == 0 {
				row[c] = bottom + rnd.Intn(2)
			}
		}
		out.Next, out.Rule = append(out.Next, row), append(out.Rule, d.Rule[i%n])
	}
	dead := machine(by(0, bottom, 3, bottom+1), by(1, bottom), ends(5, 2, 0))
	return api.Dfa{Next: append(out.Next, dead.Next...), Rule: append(out.Rule, dead.Rule...)}
}

// words are all words of at most n categories of some.
func words(n int, cats ...int) [][]int {
	out := [][]int{nil}
	for i := 0; i < len(out); i++ {
		if len(out[i]) < n {
			for _, c := range cats {
				out = append(out, append(slices.Clone(out[i]), c))
			}
		}
	}
	return out
}

// outcome is that of a state by a word, -1 if there is none.
func outcome(d api.Dfa, at int, word []int) int {
	for _, c := range word {
		if at >= 0 {
			at = d.Next[at][c]
		}
	}
	if at < 0 {
		return -1
	}
	return d.Rule[at]
}

// outcomes is a text of a state's outcomes by words, and whether there is one at all.
func outcomes(d api.Dfa, at int, all [][]int) (string, bool) {
	var out []byte
	ever := false
	for _, word := range all {
		rule := outcome(d, at, word)
		ever = ever || rule >= 0
		out = append(strconv.AppendInt(out, int64(rule), 10), ' ')
	}
	return string(out), ever
}

// smallBy is the smallest machine by the chapter's words, where it is known which states do the same, and which are dead.
func smallBy(d api.Dfa, alike func(a, b int) bool, dead func(s int) bool) api.Dfa {
	if dead(0) {
		return machine(by())
	}
	found := []int{0}
	var out api.Dfa
	for len(out.Next) < len(found) {
		s := found[len(out.Next)]
		row := d.Next[s]
		for c, to := range row {
			if to < 0 || dead(to) {
				row[c] = -1
				continue
			}
			row[c] = slices.IndexFunc(found, func(f int) bool { return alike(f, to) })
			if row[c] < 0 {
				row[c] = len(found)
				found = append(found, to)
			}
		}
		out.Next, out.Rule = append(out.Next, row), append(out.Rule, d.Rule[s])
	}
	return out
}

// reached are the pairs of states (-1: nowhere), one of each of two machines, that some word leads to.
func reached(a, b api.Dfa) [][2]int {
	out := [][2]int{{0, 0}}
	seen := map[[2]int]bool{out[0]: true}
	for i := 0; i < len(out); i++ {
		for c := range 16 {
			to := [2]int{-1, -1}
			if s := out[i][0]; s >= 0 {
				to[0] = a.Next[s][c]
			}
			if s := out[i][1]; s >= 0 {
				to[1] = b.Next[s][c]
			}
			if !seen[to] {
				seen[to] = true
				out = append(out, to)
			}
		}
	}
	return out
}

// plainSame says whether two machines match each word by the same rule, or none.
func plainSame(a, b api.Dfa) bool {
	return !slices.ContainsFunc(reached(a, b), func(at [2]int) bool {
		return outcome(a, at[0], nil) != outcome(b, at[1], nil)
	})
}

// plainUnlike is which two states of a machine have unlike outcomes by some word: those of unlike rules, and those that go to such ones by one category. Nowhere stands behind all states.
func plainUnlike(d api.Dfa) [][]bool {
	n := len(d.Next)
	rule := append(slices.Clone(d.Rule), -1)
	to := func(s, c int) int {
		if s == n || d.Next[s][c] < 0 {
			return n
		}
		return d.Next[s][c]
	}
	out := make([][]bool, n+1)
	for a := range out {
		out[a] = make([]bool, n+1)
		for b := range out {
			out[a][b] = rule[a] != rule[b]
		}
	}
	for grown := true; grown; {
		grown = false
		for a := range out {
			for b := range out {
				for c := 0; c < 16 && !out[a][b]; c++ {
					out[a][b] = out[to(a, c)][to(b, c)]
					grown = grown || out[a][b]
				}
			}
		}
	}
	return out
}

// plainSmall is the smallest machine, by that.
func plainSmall(d api.Dfa) api.Dfa {
	unlike := plainUnlike(d)
	return smallBy(d, func(a, b int) bool { return !unlike[a][b] }, func(s int) bool { return !unlike[s][len(d.Next)] })
}

// minimal holds what P8.2 and P8.4 say of any machine, and of its smallest one.
func minimal(t *testing.T, name any, d, small api.Dfa) {
	t.Helper()
	if !dfa.Right(small) || len(small.Next) > len(d.Next) {
		t.Error(name, "isn't right, or too great", small)
	}
	if again := Small(small); !equal(again, small) {
		t.Error(name, "isn't its own smallest one", small, again)
	}
	if !Same(d, small) || !Same(small, d) || !Same(d, d) {
		t.Error(name, "isn't the same", small)
	}
}

// The chapter's example.
func TestExample(t *testing.T) {
	d := grammar(t, "std: C(HC)*")
	yes, no := true, false
	alike := [][]bool{{yes, no, yes, no}, {no, yes, no, yes}, {yes, no, yes, no}, {no, yes, no, yes}}
	if got := Alike(d); len(d.Next) != 4 || !slices.EqualFunc(got, alike, slices.Equal[[]bool]) {
		t.Error(got)
	}
	if got := Dead(d); !slices.Equal(got, make([]bool, 4)) {
		t.Error(got)
	}
	if got := Small(d); !equal(got, machine(by(1, 1), ends(0, 4, 0))) {
		t.Error(got)
	}
	if other := grammar(t, "std: (CH)*C|CHC"); !Same(d, other) || !equal(Small(d), Small(other)) {
		t.Error("the same")
	}
}

// written is a machine, what is told of it, and why it stands here. Of alike states the least one is told.
type written struct {
	name  string
	d     api.Dfa
	least []int
	dead  []int
	small api.Dfa
}

// writtenOut are machines, state by state.
func writtenOut() []written {
	none := machine(by())
	return []written{
		{"one state", machine(ends(0)), []int{0}, nil, machine(ends(0))},
		{"one state, the greatest rule", machine(ends(15)), []int{0}, nil, machine(ends(15))},
		{"one state, to itself", machine(ends(3, 0, 0, 15, 0)), []int{0}, nil, machine(ends(3, 0, 0, 15, 0))},
		{"one dead state", none, []int{0}, []int{0}, none},
		{"one dead state, to itself", machine(by(0, 0, 9, 0)), []int{0}, []int{0}, none},
		{"two dead states", machine(by(), by()), []int{0, 0}, []int{0, 1}, none},
		{"a circle of dead states", machine(by(0, 1), by(1, 2), by(2, 0)), []int{0, 0, 0}, []int{0, 1, 2}, none},
		{"0 dead, others not", machine(by(0, 1), by(0, 0, 1, 1), ends(2, 1, 0), by(0, 2)), []int{0, 0, 2, 3}, []int{0, 1}, none},
		{"0 dead, others not, nor gone to", machine(by(), ends(0, 0, 0)), []int{0, 1}, []int{0}, none},
		{"one dead on the way", machine(by(0, 1, 1, 2), by(0, 1), ends(0, 3, 1)), []int{0, 1, 2}, []int{1}, machine(by(1, 1), ends(0))},
		{"dead ones behind all", machine(ends(1, 0, 1), by(5, 2), by(5, 1)), []int{0, 1, 1}, []int{1, 2}, machine(ends(1))},
		{"to a dead one, and nowhere", machine(by(0, 1, 1, 2), ends(0, 0, 3), ends(0), by(5, 3)), []int{0, 1, 1, 3}, []int{3}, machine(by(0, 1, 1, 1), ends(0))},
		{"to unlike dead ones", machine(by(0, 1, 1, 2), ends(0, 0, 3), ends(0, 0, 4), by(), by(1, 3)), []int{0, 1, 1, 3, 3}, []int{3, 4}, machine(by(0, 1, 1, 1), ends(0))},
		{"no rule, but not dead", machine(by(0, 1), by(0, 2), by(0, 3), ends(0)), []int{0, 1, 2, 3}, nil, machine(by(0, 1), by(0, 2), by(0, 3), ends(0))},
		{"no rule, but not dead, backwards", machine(by(0, 3), ends(0), by(0, 1), by(0, 2)), []int{0, 1, 2, 3}, nil, machine(by(0, 1), by(0, 2), by(0, 3), ends(0))},
		{"a circle, and a way out", machine(by(0, 1), by(0, 2), by(0, 0, 1, 3), ends(4)), []int{0, 1, 2, 3}, nil, machine(by(0, 1), by(0, 2), by(0, 0, 1, 3), ends(4))},
		{"never come to", machine(ends(0), ends(1), ends(2, 0, 1)), []int{0, 1, 2}, nil, machine(ends(0))},
		{"never come to, alike 0", machine(ends(0), ends(1, 2, 2), ends(0)), []int{0, 1, 0}, nil, machine(ends(0))},
		{"never come to, goes to a dead one", machine(ends(0, 0, 1), by(1, 1), ends(3, 2, 1)), []int{0, 1, 2}, []int{1}, machine(ends(0))},
		{"twins", machine(by(1, 1, 2, 2), ends(0), ends(0)), []int{0, 1, 1}, nil, machine(by(1, 1, 2, 1), ends(0))},
		{"twins but for their rules", machine(by(1, 1, 2, 2), ends(0), ends(1)), []int{0, 1, 2}, nil, machine(by(1, 1, 2, 2), ends(0), ends(1))},
		{"twins but for a way", machine(by(1, 1, 2, 2), ends(0), ends(0, 15, 1)), []int{0, 1, 2}, nil, machine(by(1, 1, 2, 2), ends(0), ends(0, 15, 1))},
		{"twins but for where to", machine(by(1, 1, 2, 2), ends(0, 0, 0), ends(0, 0, 1)), []int{0, 1, 2}, nil, machine(by(1, 1, 2, 2), ends(0, 0, 0), ends(0, 0, 1))},
		{"twins but for by what", machine(by(1, 1, 2, 2), ends(0, 0, 1), ends(0, 1, 1)), []int{0, 1, 2}, nil, machine(by(1, 1, 2, 2), ends(0, 0, 1), ends(0, 1, 1))},
		{"a rule, and none", machine(ends(0, 0, 1), by(0, 0)), []int{0, 1}, nil, machine(ends(0, 0, 1), by(0, 0))},
		{"0 alike the next", machine(ends(0, 1, 1), ends(0, 1, 1)), []int{0, 0}, nil, machine(ends(0, 1, 0))},
		{"a circle of alike ones", machine(ends(1, 0, 1), ends(1, 0, 2), ends(1, 0, 0)), []int{0, 0, 0}, nil, machine(ends(1, 0, 0))},
		{"a circle, in halves", machine(ends(0, 0, 1), by(0, 2), ends(0, 0, 3), by(0, 0)), []int{0, 1, 0, 1}, nil, machine(ends(0, 0, 1), by(0, 0))},
		{"numbers by the categories", machine(by(0, 3, 5, 2, 9, 1), ends(0), ends(1), ends(2)), []int{0, 1, 2, 3}, nil, machine(by(0, 1, 5, 2, 9, 3), ends(2), ends(1), ends(0))},
		{"numbers state by state", machine(by(0, 1, 1, 3), by(0, 2), ends(0), ends(1)), []int{0, 1, 2, 3}, nil, machine(by(0, 1, 1, 2), by(0, 3), ends(1), ends(0))},
		{"numbers by the first way", machine(by(0, 3, 1, 1, 2, 2, 3, 1), ends(0), ends(1), ends(0)), []int{0, 1, 2, 1}, nil, machine(by(0, 1, 1, 1, 2, 2, 3, 1), ends(0), ends(1))},
		{"no number for what is dead", machine(by(0, 1, 1, 2, 2, 3), by(), ends(0), ends(1, 7, 1)), []int{0, 1, 2, 3}, []int{1}, machine(by(1, 1, 2, 2), ends(0), ends(1))},
		{"all of it", machine(by(0, 5, 3, 2, 4, 6), ends(9), ends(1, 2, 4, 9, 0), by(1, 3), ends(2, 0, 5), by(0, 5), ends(1, 2, 4, 8, 3, 9, 7), by(0, 3, 3, 6, 4, 2)),
			[]int{0, 1, 2, 3, 4, 3, 2, 0}, []int{3, 5}, machine(by(3, 1, 4, 1), ends(1, 2, 2, 9, 0), ends(2))},
	}
}

// P8.1, P8.2, P8.4: machines written out, state by state.
func TestWrittenOut(t *testing.T) {
	for _, x := range writtenOut() {
		alike, dead := Alike(x.d), Dead(x.d)
		if len(alike) != len(x.least) || len(dead) != len(x.least) {
			t.Fatal(x.name, alike, dead)
		}
		for a, row := range alike {
			for b, is := range row {
				if is != (x.least[a] == x.least[b]) {
					t.Error(x.name, "alike", a, b)
				}
			}
			if len(row) != len(x.least) || dead[a] != slices.Contains(x.dead, a) {
				t.Error(x.name, row, "dead", a, dead[a])
			}
		}
		small := Small(x.d)
		if !equal(small, x.small) {
			t.Error(x.name, small)
		}
		minimal(t, x.name, x.d, small)
	}
}

// P8.1, P8.2: machines of grammars.
func TestGrammars(t *testing.T) {
	for text, want := range map[string]api.Dfa{
		"a: C":                   machine(by(1, 1), ends(0)),
		"a: C|N":                 machine(by(1, 1, 3, 1), ends(0)),
		"a: [CN]":                machine(by(1, 1, 3, 1), ends(0)),
		"a: C+":                  machine(by(1, 1), ends(0, 1, 1)),
		"a: C*N":                 machine(by(1, 0, 3, 1), ends(0)),
		"a: C?N":                 machine(by(1, 1, 3, 2), by(3, 2), ends(0)),
		"a: CM|NM|CS|NS":         machine(by(1, 1, 3, 1), by(5, 2, 6, 2), ends(0)),
		"a: C\nb: N":             machine(by(1, 1, 3, 2), ends(0), ends(1)),
		"a: C\nb: C":             machine(by(1, 1), ends(0)),
		"a: CC\nb: C+":           machine(by(1, 1), ends(1, 1, 2), ends(0, 1, 3), ends(1, 1, 3)),
		"a: C(HC)*M?\nbad!: [M]": machine(by(1, 1, 5, 2), ends(0, 4, 3, 5, 4), ends(1), by(1, 1), ends(0)),
		"a: C(HC)*M?\nbad: H":    machine(by(1, 1, 4, 2), ends(0, 4, 3, 5, 4), ends(1), by(1, 1), ends(0)),
		"a: (C|N)(C|N)(C|N)":     machine(by(1, 1, 3, 1), by(1, 2, 3, 2), by(1, 3, 3, 3), ends(0)),
		"a: (CC)+\nb: (CCC)+":    machine(by(1, 1), by(1, 2), ends(0, 1, 3), ends(1, 1, 4), ends(0, 1, 5), by(1, 6), ends(0, 1, 1)),
	} {
		d := grammar(t, text)
		small := Small(d)
		if !equal(small, want) {
			t.Error(text, small)
		}
		if slices.Contains(Dead(d), true) {
			t.Error(text, "has dead ones")
		}
		minimal(t, text, d, small)
	}
}

// P8.1, P8.2, P8.3: each category tells states apart, alone, and so does each rule; where each goes is told of each.
func TestEach(t *testing.T) {
	var steps, turned []int
	for c := range 16 {
		d := machine(by(0, 1, 1, 2), ends(0, c, 3), ends(0), ends(1))
		if Alike(d)[1][2] || !equal(Small(d), d) || Same(d, machine(by(0, 1, 1, 1), ends(0))) {
			t.Error("category", c)
		}
		d = machine(by(0, 1, 1, 2, 2, 3), ends(0, c, 1), ends(0, c, 1), ends(1))
		if !Alike(d)[1][2] || !equal(Small(d), machine(by(0, 1, 1, 1, 2, 2), ends(0, c, 1), ends(1))) {
			t.Error("category", c)
		}
		steps, turned = append(steps, c, c+1), append(turned, c, 16-c)
	}
	want, d := []state{by(steps...)}, []state{by(turned...)}
	for rule := range 16 {
		want, d = append(want, ends(rule, rule, 0)), append(d, ends(15-rule, 15-rule, 0))
	}
	if got := Small(machine(d...)); !equal(got, machine(want...)) {
		t.Error(got)
	}
	for a := -1; a < 16; a++ {
		for b := -1; b < 16; b++ {
			d := machine(ends(a, 3, 1), ends(b, 3, 0))
			if Alike(d)[0][1] != (a == b) || Same(d, machine(ends(b, 3, 1), ends(a, 3, 0))) != (a == b) {
				t.Error("rules", a, b)
			}
		}
	}
}

// each calls of all machines of some states, two categories, and two rules.
func each(states int, call func(d api.Dfa)) {
	var place func(d api.Dfa)
	place = func(d api.Dfa) {
		if len(d.Next) == states {
			call(copied(d))
			return
		}
		row := slices.Repeat([]int{-1}, 16)
		for first := -1; first < states; first++ {
			for last := -1; last < states; last++ {
				row[0], row[15] = first, last
				for rule := -1; rule <= 1; rule++ {
					place(api.Dfa{Next: append(slices.Clone(d.Next), [16]int(row)), Rule: append(slices.Clone(d.Rule), rule)})
				}
			}
		}
	}
	place(api.Dfa{})
}

// P8.1, P8.2, P8.4: all machines of at most three states, two categories and two rules, held against outcomes by words: those of four categories tell apart what any word does.
func TestAllMachines(t *testing.T) {
	all := words(4, 0, 15)
	sizes := map[int]int{}
	for states := 1; states <= 3; states++ {
		each(states, func(d api.Dfa) {
			texts, ever := make([]string, states), make([]bool, states)
			for s := range states {
				texts[s], ever[s] = outcomes(d, s, all)
			}
			alike, dead := Alike(d), Dead(d)
			for a := range states {
				for b := range states {
					if alike[a][b] != (texts[a] == texts[b]) {
						t.Fatal("alike", d, a, b)
					}
				}
				if dead[a] == ever[a] {
					t.Fatal("dead", d, a)
				}
			}
			small := Small(d)
			want := smallBy(d, func(a, b int) bool { return texts[a] == texts[b] }, func(s int) bool { return !ever[s] })
			if !equal(small, want) {
				t.Fatal(d, small, want)
			}
			if text, _ := outcomes(small, 0, all); text != texts[0] {
				t.Fatal(d, small, "matches unlike")
			}
			sizes[len(small.Next)]++
		})
	}
	if sizes[1] < 1000 || sizes[2] < 1000 || sizes[3] < 1000 {
		t.Error("too few of a size", sizes)
	}
}

// P8.3, P8.4: each two machines of at most two states, two categories and two rules.
func TestSameAll(t *testing.T) {
	all := words(4, 0, 15)
	var l []api.Dfa
	var texts []string
	for states := 1; states <= 2; states++ {
		each(states, func(d api.Dfa) {
			text, _ := outcomes(d, 0, all)
			l, texts = append(l, d), append(texts, text)
		})
	}
	same := 0
	for i, a := range l {
		for j := i % 5; j < len(l); j += 5 {
			if Same(a, l[j]) != (texts[i] == texts[j]) {
				t.Fatal(a, l[j])
			}
			if texts[i] == texts[j] && !equal(Small(a), Small(l[j])) {
				t.Fatal(a, l[j], "have unlike smallest machines")
			}
			if texts[i] == texts[j] {
				same++
			}
		}
	}
	if same < 1000 {
		t.Error("too few are the same", same)
	}
}

// anyMachine is one that may be, of few categories and rules, so that states are alike, and dead.
func anyMachine(rnd *rand.Rand, states int) api.Dfa {
	cats, most := 1+rnd.Intn(3), rnd.Intn(3)
	return made(states, func(int) state {
		s := by()
		for i := range cats {
			s.next[[]int{0, 7, 15}[i]] = rnd.Intn(states+1) - 1
		}
		if rnd.Intn(3) == 0 {
			s.rule = rnd.Intn(most + 1)
		}
		return s
	})
}

// held holds all that is told of a machine against plain searches.
func held(t *testing.T, d api.Dfa) api.Dfa {
	t.Helper()
	alike, dead, unlike := Alike(d), Dead(d), plainUnlike(d)
	for a := range d.Next {
		for b := range d.Next {
			if alike[a][b] == unlike[a][b] {
				t.Fatal("alike", d, a, b)
			}
		}
		if dead[a] == unlike[a][len(d.Next)] {
			t.Fatal("dead", d, a)
		}
	}
	small := Small(d)
	if !equal(small, plainSmall(d)) {
		t.Fatal(d, small)
	}
	minimal(t, d, d, small)
	return small
}

// P8.1, P8.2, P8.4: any machines, and those machines blown up, and with other numbers.
func TestAnyMachines(t *testing.T) {
	rnd := rand.New(rand.NewSource(81))
	sizes := map[int]int{}
	for range 1500 {
		d := anyMachine(rnd, 1+rnd.Intn(8))
		small := held(t, d)
		sizes[len(small.Next)]++
		great := renamed(rnd, blown(rnd, d, 1+rnd.Intn(4)))
		if got := Small(great); !equal(got, small) || !Same(great, d) || !Same(d, great) {
			t.Fatal(d, great, got)
		}
	}
	for range 60 {
		d := anyMachine(rnd, 3)
		great := renamed(rnd, blown(rnd, d, 3))
		if !equal(held(t, great), plainSmall(d)) {
			t.Fatal(d, great)
		}
	}
	for n := 1; n <= 7; n++ {
		if sizes[n] < 20 {
			t.Error("too few of a size", sizes)
		}
	}
}

// P8.3: any two machines, many of which differ in one place alone.
func TestSameAny(t *testing.T) {
	rnd := rand.New(rand.NewSource(83))
	count := map[bool]int{}
	for range 4000 {
		a := anyMachine(rnd, 1+rnd.Intn(6))
		b := renamed(rnd, blown(rnd, a, 1+rnd.Intn(3)))
		if s := rnd.Intn(len(b.Next)); rnd.Intn(2) == 0 {
			b.Rule[s] = rnd.Intn(4) - 1
		} else {
			b.Next[s][[]int{0, 7, 15, 3}[rnd.Intn(4)]] = rnd.Intn(len(b.Next)+1) - 1
		}
		want := plainSame(a, b)
		if Same(a, b) != want || Same(b, a) != want || equal(Small(a), Small(b)) != want {
			t.Fatal(a, b, want)
		}
		count[want]++
	}
	if count[true] < 500 || count[false] < 500 {
		t.Error("too few of either", count)
	}
}

// P8.1, P8.2, P8.4: just as many states as there may be, all alike.
func TestMostAlike(t *testing.T) {
	const n = api.MaxStates
	var steps []int
	for c := range 16 {
		steps = append(steps, c, 0)
	}
	for name, x := range map[string]struct{ d, want api.Dfa }{
		"a row": {made(n, func(i int) state { return ends(4, 2, (i+1)%n) }), machine(ends(4, 2, 0))},
		"all over": {made(n, func(i int) state {
			s := ends(15)
			for c := range 16 {
				s.next[c] = (i*17 + c*c) % n
			}
			return s
		}), machine(ends(15, steps...))},
		"without steps": {made(n, func(int) state { return ends(0) }), machine(ends(0))},
		"to themselves": {made(n, func(i int) state { return ends(2, 9, i) }), machine(ends(2, 9, 0))},
		"all dead":      {made(n, func(i int) state { return by(i%16, (i*7+3)%n) }), machine(by())},
		"dead, steps":   {made(n, func(int) state { return by() }), machine(by())},
	} {
		alike, dead := Alike(x.d), Dead(x.d)
		for a, row := range alike {
			if len(row) != n || slices.Contains(row, false) || dead[a] != (x.want.Rule[0] < 0) {
				t.Error(name, a)
			}
		}
		if len(alike) != n || len(dead) != n {
			t.Error(name, len(alike), len(dead))
		}
		small := Small(x.d)
		if !equal(small, x.want) {
			t.Error(name, small)
		}
		minimal(t, name, x.d, small)
	}
}

// P8.1, P8.2, P8.4: just as many states as there may be, all unlike, by whichever numbers.
func TestMostUnlike(t *testing.T) {
	const n = api.MaxStates
	rnd := rand.New(rand.NewSource(82))
	last := func(i int, s state) state {
		if i == n-1 {
			return ends(15)
		}
		return s
	}
	for name, d := range map[string]api.Dfa{
		"a row":            made(n, func(i int) state { return last(i, by(i%16, i+1)) }),
		"a row of one":     made(n, func(i int) state { return last(i, by(0, i+1)) }),
		"a row, and back":  made(n, func(i int) state { return last(i, by(3, i+1, 5, max(i-1, 0))) }),
		"a row of a rule":  made(n, func(i int) state { return last(i, ends(2, 7, i+1, 8, i)) }),
		"a tree":           made(n, func(i int) state { return tree(i, n, 2) }),
		"a tree of 15":     made(n, func(i int) state { return tree(i, n, 15) }),
		"a circle, 1 rule": made(n, func(i int) state { return ends([]int{6, -1}[min(i, 1)], 4, (i+1)%n) }),
	} {
		for range 3 {
			for a, row := range Alike(d) {
				for b, is := range row {
					if is != (a == b) {
						t.Fatal(name, a, b)
					}
				}
			}
			if slices.Contains(Dead(d), true) {
				t.Error(name, "dead ones")
			}
			d = renamed(rnd, d)
		}
		small := Small(d)
		if len(small.Next) != n || !Same(d, small) || !equal(Small(renamed(rnd, small)), small) {
			t.Error(name, small)
		}
		minimal(t, name, d, small)
	}
	row := made(n, func(i int) state { return last(i, by(i%16, i+1)) })
	if got := Small(renamed(rnd, row)); !equal(got, row) {
		t.Error(got)
	}
}

// tree is a state of n, that goes on to some others; what tells it apart is how far behind 0, which alone has a rule, it stands.
func tree(i, n, ways int) state {
	s := ends(3)
	if i > 0 {
		s = by(15, i-1)
	}
	for c := range ways {
		if to := i*ways + c + 1; to < n {
			s.next[c] = to
		}
	}
	return s
}

// P8.1, P8.2, P8.4: just as many states as there may be, in twos.
func TestMostTwins(t *testing.T) {
	const n = api.MaxStates / 2
	want := made(n, func(i int) state {
		if i == n-1 {
			return ends(15)
		}
		return by(i%16, i+1)
	})
	d := made(2*n, func(i int) state {
		if i/2 == n-1 {
			return ends(15)
		}
		return by(i/2%16, 2*(i/2+1)+(i+i/3)%2)
	})
	for a, row := range Alike(d) {
		for b, is := range row {
			if is != (a/2 == b/2) {
				t.Fatal(a, b, is)
			}
		}
	}
	rnd := rand.New(rand.NewSource(85))
	for range 5 {
		if got := Small(d); !equal(got, want) || !Same(d, want) {
			t.Error(got)
		}
		d = renamed(rnd, d)
	}
}

// P8.1, P8.2, P8.3: states unlike only by a long word, and the same ones, alike. Rows of dead ones, as long.
func TestLong(t *testing.T) {
	const long = 99
	// The states from 1 on are two rows, that end at 197 and 198 with a rule each; 199 goes on without end.
	two := func(a, b int) api.Dfa {
		return made(200, func(i int) state {
			switch {
			case i == 0:
				return by(0, 1, 1, 2, 2, 199)
			case i == 197:
				return ends(a)
			case i == 198:
				return ends(b)
			case i == 199:
				return by(5, 199)
			}
			return by(5, i+2)
		})
	}
	for a := -1; a < 3; a++ {
		for b := -1; b < 3; b++ {
			d := two(a, b)
			alike, dead := Alike(d), Dead(d)
			for i := 1; i < 198; i += 2 {
				if alike[i][i+1] != (a == b) || alike[i+1][i] != (a == b) || dead[i] != (a < 0) || dead[i+1] != (b < 0) || alike[i][199] != (a < 0) {
					t.Error(a, b, i)
				}
			}
			want := 1
			for i, rule := range []int{a, b} {
				if rule >= 0 && (i == 0 || a != b) {
					want += long
				}
			}
			if small := Small(d); len(small.Next) != want || !dead[199] {
				t.Error(a, b, len(small.Next))
			}
			if Same(d, two(b, a)) != (a == b) || !Same(d, two(a, b)) || Same(d, two(a, 9)) {
				t.Error(a, b, "same")
			}
		}
	}
}

// P8.3: written out.
func TestSame(t *testing.T) {
	none := machine(by())
	for name, x := range map[string]struct {
		a, b api.Dfa
		want bool
	}{
		"one, and itself":                   {machine(ends(0)), machine(ends(0)), true},
		"unlike rules":                      {machine(ends(0)), machine(ends(1)), false},
		"a rule, and none":                  {machine(ends(0)), none, false},
		"none, and none":                    {none, none, true},
		"all dead":                          {none, machine(by(0, 1), by(3, 0)), true},
		"0 dead, another not":               {none, machine(by(0, 0), ends(3)), true},
		"a state more":                      {machine(ends(0, 1, 0)), machine(ends(0, 1, 1), ends(0, 1, 0)), true},
		"a state more, unlike":              {machine(ends(0, 1, 0)), machine(ends(0, 1, 1), ends(0, 1, 1, 2, 0)), false},
		"a dead state more":                 {machine(ends(0)), machine(ends(0, 1, 1), by(1, 1)), true},
		"one more that isn't come to":       {machine(ends(0)), machine(ends(0), ends(1)), true},
		"one more, come to":                 {machine(ends(0)), machine(ends(0, 15, 1), ends(0)), false},
		"the empty word alone":              {machine(ends(0, 1, 1), ends(0)), machine(by(1, 1), ends(0)), false},
		"all but the empty word":            {machine(by(1, 1), ends(0, 1, 1)), machine(ends(0, 1, 0)), false},
		"one category for another":          {machine(by(1, 1), ends(0)), machine(by(2, 1), ends(0)), false},
		"one category more":                 {machine(by(1, 1), ends(0)), machine(by(1, 1, 2, 1), ends(0)), false},
		"other numbers":                     {machine(by(1, 1, 2, 2), ends(0), ends(1)), machine(by(1, 2, 2, 1), ends(1), ends(0)), true},
		"rules the other way":               {machine(by(1, 1, 2, 2), ends(0), ends(1)), machine(by(1, 1, 2, 2), ends(1), ends(0)), false},
		"circles of two and three":          {made(2, func(i int) state { return ends(0, 0, (i+1)%2) }), made(3, func(i int) state { return ends(0, 0, (i+1)%3) }), true},
		"circles of two and three, unlike":  {made(2, func(i int) state { return ends(i, 0, (i+1)%2) }), made(3, func(i int) state { return ends(i%2, 0, (i+1)%3) }), false},
		"circles of 199 and 200, one rule":  {made(199, func(i int) state { return ends(min(i, 1), 0, (i+1)%199) }), made(200, func(i int) state { return ends(min(i, 1), 0, (i+1)%200) }), false},
		"circles of 199 and 200":            {made(199, func(i int) state { return ends(1, 0, (i+1)%199) }), made(200, func(i int) state { return ends(1, 0, (i+1)%200) }), true},
		"grammars, the same":                {grammar(t, "a: C(HC)*"), grammar(t, "a: (CH)*C"), true},
		"grammars, unlike":                  {grammar(t, "a: C(HC)*"), grammar(t, "a: C(HC)+"), false},
		"grammars, a rule ahead":            {grammar(t, "a: C(HC)*"), grammar(t, "b: H\na: C(HC)*"), false},
		"grammars, a rule behind":           {grammar(t, "a: C(HC)*"), grammar(t, "a: C(HC)*\nb: H"), false},
		"grammars, a rule that has nothing": {grammar(t, "a: C(HC)*"), grammar(t, "a: C(HC)*\nb: CHC"), true},
		"grammars, sets":                    {grammar(t, "a: [CN]+M?"), grammar(t, "a: (C|N)+|[CN]+M"), true},
	} {
		if Same(x.a, x.b) != x.want || Same(x.b, x.a) != x.want {
			t.Error(name)
		}
		if equal(Small(x.a), Small(x.b)) != x.want {
			t.Error(name, "smallest machines")
		}
		if !Same(x.a, x.a) || !Same(x.b, x.b) {
			t.Error(name, "isn't itself")
		}
	}
}

// P8.3: machines that differ by one word alone, or in its rule.
func TestSameOneWord(t *testing.T) {
	const n = 63 // each state is that of one word of two categories
	all := made(n, func(i int) state {
		s := ends(i % 3)
		if 2*i+2 < n {
			s.next[0], s.next[15] = 2*i+1, 2*i+2
		}
		return s
	})
	if small := Small(all); len(small.Next) >= n {
		t.Error("nothing is alike")
	}
	for i := range n {
		for rule := -1; rule < 16; rule += 2 {
			other := copied(all)
			other.Rule[i] = rule
			if want := rule == i%3; Same(all, other) != want || Same(other, all) != want {
				t.Error(i, rule)
			}
		}
	}
	for _, word := range words(5, 1, 4) {
		if len(word) > 0 {
			a := grammar(t, "a: [CH]+")
			b := grammar(t, "b: "+rules.Word(word)+"\na: [CH]+")
			for s, rule := range b.Rule {
				b.Rule[s] = max(rule-1, -1) // what a has; the word has none
			}
			if Same(a, b) || Same(b, a) || !Same(b, b) {
				t.Error(word)
			}
		}
	}
}

// wrong is what may not be: a machine with one thing put out of its range.
func wrong() map[string]api.Dfa {
	row := func(v int) [16]int { return [16]int(slices.Repeat([]int{v}, 16)) }
	out := map[string]api.Dfa{
		"zero":        {},
		"no states":   {Next: [][16]int{}, Rule: []int{}},
		"spare room":  {Next: make([][16]int, 0, 3), Rule: make([]int, 0, 3)},
		"201 states":  made(201, func(i int) state { return ends(0, 0, i) }),
		"201 alike":   made(201, func(int) state { return ends(0) }),
		"201 dead":    made(201, func(int) state { return by() }),
		"many states": made(5000, func(int) state { return ends(1) }),
		"no rules":    {Next: [][16]int{row(-1)}},
		"no Next":     {Rule: []int{0}},
		"Rules short": {Next: [][16]int{row(0), row(1)}, Rule: []int{0}},
		"Rules long":  {Next: [][16]int{row(0), row(1)}, Rule: []int{0, 1, -1}},
		"Rules, room": {Next: [][16]int{row(0), row(1)}, Rule: []int{0, 1}[:1]},
		"Next, 200":   {Next: slices.Repeat([][16]int{row(0)}, 200), Rule: make([]int, 201)},
		"Rule, 200":   {Next: slices.Repeat([][16]int{row(0)}, 201), Rule: make([]int, 200)},
	}
	for _, states := range []int{1, 3, 200} {
		for _, at := range []int{0, states / 2, states - 1} {
			place := " of " + strconv.Itoa(at) + " in " + strconv.Itoa(states)
			for _, v := range []int{-2, 16, 17, math.MinInt, math.MaxInt} {
				d := made(states, func(i int) state { return ends(i%16, 0, i) })
				d.Rule[at] = v
				out["Rule "+strconv.Itoa(v)+place] = d
			}
			for _, v := range []int{-2, states, states + 1, 200, math.MinInt, math.MaxInt} {
				for _, c := range []int{0, 8, 15} {
					d := made(states, func(i int) state { return ends(i%16, 0, i) })
					d.Next[at][c] = v
					out["Next "+strconv.Itoa(v)+" by "+strconv.Itoa(c)+place] = d
				}
			}
		}
	}
	return out
}

// P8.1, P8.2, P8.3: machines that may not be.
func TestWrong(t *testing.T) {
	right := machine(ends(0, 0, 0))
	for name, d := range wrong() {
		small := Small(d)
		if len(small.Next)+len(small.Rule) != 0 || len(Alike(d)) != 0 || len(Dead(d)) != 0 {
			t.Error(name, small, len(Alike(d)), len(Dead(d)))
		}
		if Same(d, right) || Same(right, d) || Same(d, d) || Same(d, machine(by())) || Same(d, copied(d)) || Same(d, api.Dfa{}) || Same(api.Dfa{}, d) {
			t.Error(name, "same")
		}
	}
}

// P8.4: what the smallest one tells of all short words, from the machine's own: Match, and what cuts lean on.
func TestWords(t *testing.T) {
	all := append(words(6, 1, 3, 4), words(3, 0, 1, 4, 5, 15, -1, 16)...)
	for _, text := range []string{
		"a: C(HC)*", "a: C(HC)*M?\nbad!: [NHM]+", "a: C*H?C", "a: C\nb: [CH]\nc: [CHM][CHM]+", "a: (CH|HC|N)+\nb: C+N*",
		"a: (CC)+\nb: (CCC)+\nc: C+", "a: [CH]*C[CH][CH]", "a: N(C?H?)*N\nb: N|NN\nc: (C|H)*N", "a: O\nb: OC|OH\nc: (OCC|X)+\nd: [CHN]+X?",
	} {
		d := grammar(t, text)
		small := Small(d)
		for _, word := range all {
			if got, want := dfa.Match(small, word), dfa.Match(d, word); got != want {
				t.Error(text, word, got, want)
			}
			end, rule := dfa.Longest(small, word, 0)
			if wantEnd, wantRule := dfa.Longest(d, word, 0); end != wantEnd || rule != wantRule {
				t.Error(text, word, end, rule)
			}
		}
		minimal(t, text, d, small)
		if !equal(small, plainSmall(d)) {
			t.Error(text, small)
		}
	}
	rnd := rand.New(rand.NewSource(84))
	short := words(6, 0, 7, 15)
	matched := 0
	for range 300 {
		d := anyMachine(rnd, 1+rnd.Intn(9))
		small := Small(d)
		for _, word := range short {
			want := outcome(d, 0, word)
			if got := outcome(small, 0, word); got != want {
				t.Fatal(d, small, word, got, want)
			}
			if want >= 0 {
				matched++
			}
		}
	}
	if matched < 10000 {
		t.Error("too few matched", matched)
	}
}

// scribble writes over all of a list, spare room included.
func scribble[T any](l []T, v T) {
	l = l[:cap(l)]
	for i := range l {
		l[i] = v
	}
}

// P8.1, P8.2, P8.3, rule 4: machines stay as they are, and what is answered is new memory, each list its own.
func TestMemory(t *testing.T) {
	for _, x := range writtenOut() {
		room := api.Dfa{Next: append(slices.Clone(x.d.Next), [16]int{99}), Rule: append(slices.Clone(x.d.Rule), 99)}
		was, n := copied(room), len(x.d.Next)
		d := api.Dfa{Next: room.Next[:n], Rule: room.Rule[:n]}
		wantAlike, wantDead := Alike(x.d), Dead(x.d)
		for range 2 {
			small, alike, dead := Small(d), Alike(d), Dead(d)
			if !equal(small, x.small) || !slices.EqualFunc(alike, wantAlike, slices.Equal[[]bool]) || !slices.Equal(dead, wantDead) || !Same(d, x.small) {
				t.Fatal(x.name, "another answer")
			}
			scribble(small.Rule, 77)
			if !slices.Equal(small.Next, x.small.Next) {
				t.Error(x.name, "lists share memory")
			}
			scribble(small.Next, [16]int{78})
			scribble(dead, true)
			for i := range alike {
				scribble(alike[i], i%2 == 0)
				for j := i + 1; j < len(alike); j++ {
					if !slices.Equal(alike[j], wantAlike[j]) {
						t.Error(x.name, "rows share memory")
					}
				}
			}
			scribble(alike, nil)
			if !equal(room, was) {
				t.Error(x.name, "something was changed")
			}
		}
	}
}
