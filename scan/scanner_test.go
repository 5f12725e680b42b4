package scan

import (
	"fmt"
	"math"
	"math/rand"
	"slices"
	"strings"
	"testing"

	"reedpen/api"
	"reedpen/dfa"
	"reedpen/mini"
	"reedpen/regex"
	"reedpen/rules"
)

func set(s uint16) api.Regex { return api.Regex{Kind: api.KindSet, Set: s} }

func cat(l ...api.Regex) api.Regex { return api.Regex{Kind: api.KindCat, Kids: l} }

func alt(l ...api.Regex) api.Regex { return api.Regex{Kind: api.KindAlt, Kids: l} }

func star(r api.Regex) api.Regex { return api.Regex{Kind: api.KindStar, Kids: []api.Regex{r}} }

func opt(r api.Regex) api.Regex { return api.Regex{Kind: api.KindOpt, Kids: []api.Regex{r}} }

// chain is n of a set, one behind the other.
func chain(s uint16, n int) api.Regex { return cat(slices.Repeat([]api.Regex{set(s)}, n)...) }

// named are rules of expressions, none broken.
func named(l ...api.Regex) []api.Rule {
	var out []api.Rule
	for i, r := range l {
		out = append(out, api.Rule{Name: string(rune('a' + i)), Regex: r})
	}
	return out
}

// expressions are those of rules.
func expressions(l []api.Rule) []api.Regex {
	var out []api.Regex
	for _, r := range l {
		out = append(out, r.Regex)
	}
	return out
}

// grammar is a text's rules.
func grammar(t *testing.T, text string) []api.Rule {
	t.Helper()
	l, line, e := rules.Parse(text)
	if e != api.OK {
		t.Fatal(text, line, e)
	}
	return l
}

// scanner is that of rules that are right.
func scanner(t *testing.T, l []api.Rule) *Scanner {
	t.Helper()
	s := New(l)
	if s == nil {
		t.Fatal("no scanner", l)
	}
	return s
}

// wantPieces cuts a word.
func wantPieces(t *testing.T, s *Scanner, word []int, want string) {
	t.Helper()
	got, e := s.Cut(word)
	if e != api.OK || told(got) != want || !Whole(got, len(word)) {
		t.Errorf("%v: %s, %d, want %s", word, told(got), e, want)
	}
}

// P9.2, P9.3: the chapter's example.
func TestExample(t *testing.T) {
	s := scanner(t, grammar(t, "std: C(HC)*\nbad!: [HN]+"))
	wantPieces(t, s, cats(t, "CHCHHCO"), "0-3:0 3-5:1 5-6:0 6-7:-1")
	for rule, want := range map[int]bool{0: false, 1: true, -1: true} {
		if s.Broken(api.Piece{From: 0, To: 3, Rule: rule}) != want {
			t.Error(rule)
		}
	}
	if s.Cuts() != 4 {
		t.Error(s.Cuts())
	}
}

// P9.2: words cut one behind the other by one scanner, and how many pieces were cut behind each.
func TestScannerCut(t *testing.T) {
	for text, cuts := range map[string][][2]string{
		"std: C(HC)*M?\nvow: V\nbad!: [HNM]+\npair: CV": {
			{"", ""}, {"CHCM", "0-4:0"}, {"CHCHM", "0-3:0 3-5:2"}, {"OCV", "0-1:-1 1-3:3"}, {"CHCV", "0-3:0 3-4:1"},
			{"VVM", "0-1:1 1-2:1 2-3:2"}, {"CC", "0-1:0 1-2:0"}, {"", ""}, {"O", "0-1:-1"}, {"CVH", "0-2:3 2-3:2"}, {"OOX", "0-1:-1 1-2:-1 2-3:-1"},
		},
		"a: C\nb: CHHH": { // goes on past a shorter one, and falls back to it
			{"C", "0-1:0"}, {"CHHH", "0-4:1"}, {"CHH", "0-1:0 1-2:-1 2-3:-1"}, {"CHHCHHH", "0-1:0 1-2:-1 2-3:-1 3-7:1"}, {"CHHN", "0-1:0 1-2:-1 2-3:-1 3-4:-1"}, {"CCHHHC", "0-1:0 1-5:1 5-6:0"},
		},
		"a: CC\nb: (CCC)+\nc: C": {
			{"C", "0-1:2"}, {"CC", "0-2:0"}, {"CCC", "0-3:1"}, {"CCCC", "0-3:1 3-4:2"}, {"CCCCC", "0-3:1 3-5:0"}, {"CCCCCCCC", "0-6:1 6-8:0"},
		},
		"a: CHC\nb: [CH]+\nc: CHC|N": { // two rules of the same words
			{"CHC", "0-3:0"}, {"CHCN", "0-3:0 3-4:2"}, {"CH", "0-2:1"}, {"CHCH", "0-4:1"}, {"N", "0-1:2"},
		},
		"b: [CH]+\na: CHC": {{"CHC", "0-3:0"}, {"HCHC", "0-4:0"}},
		"long: CHCHM\nshort: CH\nlast: M": {
			{"CHCHM", "0-5:0"}, {"CHCH", "0-2:1 2-4:1"}, {"CHCM", "0-2:1 2-3:-1 3-4:2"}, {"CHCHCHM", "0-2:1 2-7:0"}, {"M", "0-1:2"}, {"CM", "0-1:-1 1-2:2"},
		},
		"n: HN":      {{"H", "0-1:-1"}, {"HH", "0-1:-1 1-2:-1"}, {"HHN", "0-1:-1 1-3:0"}, {"HNH", "0-2:0 2-3:-1"}},
		"o: O\nx: X": {{"OX", "0-1:0 1-2:1"}, {"XCO", "0-1:1 1-2:-1 2-3:0"}},
	} {
		s := scanner(t, grammar(t, text))
		want := 0
		for range 2 {
			for _, x := range cuts {
				if s.Cuts() != want {
					t.Errorf("%q: %d pieces, want %d", text, s.Cuts(), want)
				}
				wantPieces(t, s, cats(t, x[0]), x[1])
				want += len(strings.Fields(x[1]))
			}
		}
		if s.Cuts() != want || s.Cuts() != want {
			t.Errorf("%q: %d pieces, want %d", text, s.Cuts(), want)
		}
	}
}

// P9.2: sixteen rules, of which each has its number; a word's last category alone.
func TestScannerRules(t *testing.T) {
	var l []api.Rule
	for i := range 16 {
		l = append(l, api.Rule{Name: strings.Repeat("n", i+1), Regex: cat(set(1<<i), set(1<<i)), Broken: i%3 == 0})
	}
	s := scanner(t, l)
	for i := range 16 {
		wantPieces(t, s, []int{i, i}, fmt.Sprintf("0-2:%d", i))
		wantPieces(t, s, []int{i, i, i}, fmt.Sprintf("0-2:%d 2-3:-1", i))
		wantPieces(t, s, []int{i, (i + 1) % 16, (i + 1) % 16}, fmt.Sprintf("0-1:-1 1-3:%d", (i+1)%16))
		if s.Broken(api.Piece{Rule: i}) != (i%3 == 0) {
			t.Error(i)
		}
	}
	if s.Cuts() != 16*5 {
		t.Error(s.Cuts())
	}
}

// P9.2: categories that are none.
func TestScannerOtherCategories(t *testing.T) {
	s := scanner(t, grammar(t, "all: [OCVNHMSRJWDKGTQX]+"))
	wantPieces(t, s, []int{0, 1, 14, 15}, "0-4:0")
	wantPieces(t, s, []int{99, -1}, "0-1:-1 1-2:-1")
	wantPieces(t, s, []int{16, 0, 15, -1, 15, math.MinInt}, "0-1:-1 1-3:0 3-4:-1 4-5:0 5-6:-1")
	wantPieces(t, s, []int{math.MaxInt, 1 << 32, 1 << 16, -16}, "0-1:-1 1-2:-1 2-3:-1 3-4:-1")
	if s.Cuts() != 12 {
		t.Error(s.Cuts())
	}
}

// wrongGrammars are such as aren't right.
func wrongGrammars() map[string][]api.Rule {
	one := set(2)
	with := func(r api.Regex) []api.Rule { return named(one, r) }
	many := func(n int) []api.Rule {
		var l []api.Rule
		for i := range n {
			l = append(l, api.Rule{Name: strings.Repeat("a", i%16+1) + strings.Repeat("b", i/16), Regex: one})
		}
		return l
	}
	deep := one
	for range api.MaxDeep {
		deep = alt(deep)
	}
	itself := []api.Regex{{Kind: api.KindCat}}
	itself[0].Kids = itself
	return map[string][]api.Rule{
		"nil": nil, "none": {}, "none, with spare room": make([]api.Rule, 0, 3), "zero": make([]api.Rule, 1),
		"seventeen": many(17), "very many": slices.Repeat(many(1), 100000),
		"no name": {{Regex: one}}, "long name": {{Name: "abcdefghijklmnopq", Regex: one}},
		"great letter": {{Name: "Std", Regex: one}}, "other sign": {{Name: "st-d", Regex: one}}, "number": {{Name: "std1", Regex: one}}, "other letter": {{Name: "é", Regex: one}},
		"names alike":        {{Name: "a", Regex: one}, {Name: "b", Regex: one}, {Name: "a", Regex: set(4)}},
		"names alike, but !": {{Name: "a", Regex: one}, {Name: "a", Regex: one, Broken: true}},
		"empty word":         with(star(one)), "empty word too": with(opt(cat(one, one))), "empty word alone": with(api.Regex{}),
		"empty word in both": with(cat(opt(one), star(one))), "set of none": with(set(0)), "no kind": with(api.Regex{Kind: 6}),
		"cat of none": with(cat()), "star of two": with(cat(one, api.Regex{Kind: api.KindStar, Kids: []api.Regex{one, one}})),
		"set with a kid": with(api.Regex{Kind: api.KindSet, Set: 1, Kids: []api.Regex{one}}), "wrong within": with(cat(one, opt(set(0)))),
		"101 nodes": with(chain(2, 100)), "13 deep": with(deep), "itself": with(itself[0]),
	}
}

// P9.2: a scanner is there just where the grammar is right.
func TestNewWrong(t *testing.T) {
	for name, l := range wrongGrammars() {
		if New(l) != nil {
			t.Error(name, "a scanner")
		}
	}
	deep := set(2)
	for range api.MaxDeep - 1 {
		deep = alt(deep)
	}
	for name, l := range map[string][]api.Rule{
		"one":             named(set(1)),
		"sixteen":         named(slices.Repeat([]api.Regex{set(1)}, 16)...),
		"a long name":     {{Name: "abcdefghijklmnop", Regex: set(1)}},
		"100 nodes":       named(chain(2, 99)),
		"12 deep":         named(deep),
		"all broken":      {{Name: "a", Regex: set(1), Broken: true}},
		"unlike by a bit": {{Name: "a", Regex: set(1)}, {Name: "aa", Regex: set(1)}},
	} {
		if s := New(l); s == nil || s.Cuts() != 0 {
			t.Error(name, "no scanner")
		}
	}
}

// P9.2: a nil scanner at each of its methods.
func TestNilScanner(t *testing.T) {
	var s *Scanner
	for range 2 {
		for _, word := range [][]int{nil, {}, {1}, {1, 4, 1}, {99, -1}} {
			if l, e := s.Cut(word); len(l) != 0 || e != api.ErrArg {
				t.Error(word, told(l), e)
			}
		}
		if d, e := s.Machine(); len(d.Next)+len(d.Rule) != 0 || e != api.ErrArg {
			t.Error(d, e)
		}
		for _, rule := range []int{-1, 0, 1, 15, 16, math.MinInt, math.MaxInt} {
			if !s.Broken(api.Piece{Rule: rule}) {
				t.Error(rule)
			}
		}
		if s.Cuts() != 0 {
			t.Error(s.Cuts())
		}
	}
}

// P9.2: which pieces are broken, ahead of the first cut and behind it; where they stand is no matter.
func TestBroken(t *testing.T) {
	l := grammar(t, "a: C\nb!: H\nc: N\nd!: M\ne!: V")
	want := []bool{false, true, false, true, true}
	for most := 1; most <= len(l); most++ {
		s := scanner(t, l[:most])
		for range 2 {
			for _, p := range []api.Piece{{}, {From: 0, To: 1}, {From: 5, To: 2}, {From: -1, To: -1}, {From: math.MinInt, To: math.MaxInt}} {
				for _, rule := range []int{-1, -2, -5, most, most + 1, 5, 15, 16, math.MinInt, math.MaxInt, 1 << 32, -1 << 32} {
					p.Rule = rule
					if !s.Broken(p) {
						t.Error(most, p)
					}
				}
				for rule := range most {
					p.Rule = rule
					if s.Broken(p) != want[rule] {
						t.Error(most, p)
					}
				}
			}
			wantPieces(t, s, []int{1}, "0-1:0")
		}
	}
}

// tooBig are grammars whose machine is too big.
func tooBig(t *testing.T) map[string][]api.Rule {
	wide := func(first uint16) api.Regex { // 81 states, of which 6 are unlike
		var any []api.Regex
		for c := range 16 {
			any = append(any, set(1<<c))
		}
		return cat(append([]api.Regex{set(first)}, slices.Repeat([]api.Regex{alt(any...)}, 5)...)...)
	}
	return map[string][]api.Rule{
		"512 states":         grammar(t, "a: [OC]*C[OC][OC][OC][OC][OC][OC][OC][OC]\nb!: H"),
		"2^91 states":        named(cat(append([]api.Regex{star(set(3)), set(1)}, chain(3, 90).Kids...)...)),
		"201 states":         named(chain(1, 99), chain(2, 99), set(4), set(8)),
		"but 19 unlike ones": named(wide(1), wide(2), wide(4)),
	}
}

// P9.2: a machine that is too big is told by Machine and by Cut, each time anew; what is broken is told all the same.
func TestTooBig(t *testing.T) {
	for name, l := range tooBig(t) {
		for first := range 2 { // Machine is asked first, or Cut is
			s := scanner(t, l)
			for i := range 6 {
				if (i+first)%2 == 0 {
					if d, e := s.Machine(); e != api.ErrBig || len(d.Next)+len(d.Rule) != 0 {
						t.Error(name, len(d.Next), e)
					}
				} else if p, e := s.Cut([]int{1, 2, 99, 4}[:i/2]); e != api.ErrBig || len(p) != 0 {
					t.Error(name, told(p), e)
				}
				if s.Cuts() != 0 {
					t.Error(name, s.Cuts())
				}
				for rule, r := range l {
					if s.Broken(api.Piece{Rule: rule}) != r.Broken {
						t.Error(name, rule)
					}
				}
				if !s.Broken(api.Piece{Rule: -1}) || !s.Broken(api.Piece{Rule: len(l)}) {
					t.Error(name, "rules that it hasn't")
				}
			}
		}
	}
	s := scanner(t, named(chain(1, 99), chain(2, 99), set(4)))
	if d, e := s.Machine(); e != api.OK || len(d.Next) != 200 {
		t.Error("200 states", len(d.Next), e)
	}
	wantPieces(t, s, append(make([]int, 99), 2, 1, 0), "0-99:0 99-100:2 100-101:-1 101-102:-1")
}

// smallest is the smallest machine of rules.
func smallest(t *testing.T, l []api.Rule) api.Dfa {
	t.Helper()
	d, e := dfa.Build(expressions(l))
	if e != api.OK {
		t.Fatal(l, e)
	}
	return mini.Small(d)
}

// texts are grammars' texts, those of scripts among them.
func texts() []string {
	return []string{
		"a: C", "a!: C", "std: C(HC)*\nbad!: [HN]+", "std: C(HC)*M?\nvow: V\nbad!: [HNM]+\npair: CV", "a: C\nb: CHHH", "a: C\nb: C*H", "a: CHCHM\nb: CH",
		"a: CHC\nb: [CH]+\nc: CHC|N", "b: [CH]+\na: CHC", "a!: CC\nb: CCC\nc: C+H", "a: (CH|HC|N)+\nb: C+N*", "a: C(C?H)*N\nb: N|NN\nc!: (C|H)+N", "x: (CN?H)+\ny: CN?\nz: H+",
		"std: [CRVDQ]N?(H[JW]?[CR]N?)*[HJW]*T*[MX]*S*\nbad!: [NHMSTXJW]+",
		"cons: ([CR]N?H[JW]?)*[CR]N?[HJW]*T*[MX]*N?S*\nvow: (RH)?VN?(H[CR]N?)*[MX]*S*\nplace: [DQ]N?(H[CR]N?)*[MX]*S*\nbad!: [NHMSTXJW]+",
		"syl: [CRVD][NGX]*(K[CRV]N?)*[MX]*S*T*\nbad!: [NKGMSXT]+",
	}
}

// P9.2: the machine is the smallest one, asked ahead of the first cut or behind it, and cuts as it says.
func TestMachine(t *testing.T) {
	for _, text := range texts() {
		l := grammar(t, text)
		want := smallest(t, l)
		ahead, behind := scanner(t, l), scanner(t, l)
		behind.Cut([]int{1, 4, 3, 5})
		for range 2 {
			a, e := ahead.Machine()
			b, f := behind.Machine()
			if e != api.OK || f != api.OK || !equal(a, want) || !equal(b, want) {
				t.Fatalf("%q: %v, %v, want %v", text, a, b, want)
			}
			for _, word := range words(4, 1, 3, 4, 5) {
				p, e := ahead.Cut(word)
				q, f := behind.Cut(word)
				if e != api.OK || f != api.OK || !slices.Equal(p, Cut(want, word)) || !slices.Equal(p, q) {
					t.Fatalf("%q, %v: %s, %s", text, word, told(p), told(q))
				}
			}
		}
	}
}

// P9.2: what is asked of one scanner, or of a machine, is counted by no other; Machine, Broken and package calls count nothing.
func TestCutsIsOfOneScanner(t *testing.T) {
	l := grammar(t, "a: CC|C")
	a, b := scanner(t, l), scanner(t, l)
	for i := range 5 {
		wantPieces(t, a, []int{1, 1, 1, 2}, "0-2:0 2-3:0 3-4:-1")
		d, _ := a.Machine()
		Cut(d, []int{1, 1})
		a.Broken(api.Piece{})
		Whole([]api.Piece{{From: 0, To: 1}}, 1)
		if a.Cuts() != 3*(i+1) || b.Cuts() != 0 {
			t.Error(i, a.Cuts(), b.Cuts())
		}
	}
	wantPieces(t, b, make([]int, 0), "")
	if got, e := b.Cut(make([]int, 70000)); e != api.OK || len(got) != 70000 || b.Cuts() != 70000 || a.Cuts() != 15 {
		t.Error(len(got), e, a.Cuts(), b.Cuts())
	}
}

// P9.2: it is made ready when it cuts, or its machine is asked, first, and once; then it needs no expressions any more.
func TestReadyOnce(t *testing.T) {
	l := grammar(t, "a: C(HC)*\nb!: [HN]+")
	for name, first := range map[string]func(s *Scanner){
		"Cut": func(s *Scanner) { s.Cut(nil) }, "Machine": func(s *Scanner) { s.Machine() },
	} {
		s := scanner(t, l)
		s.Broken(api.Piece{})
		s.Cuts()
		if len(s.machine.Next) != 0 || len(s.expressions) != 2 {
			t.Error(name, "made ready early")
		}
		first(s)
		if len(s.machine.Next) == 0 || s.expressions != nil {
			t.Fatal(name, "isn't ready")
		}
		made := &s.machine.Next[0]
		s.Cut([]int{1, 4})
		s.Machine()
		if &s.machine.Next[0] != made {
			t.Error(name, "made ready again")
		}
	}
	s := scanner(t, tooBig(t)["201 states"])
	s.Cut(nil)
	if s.expressions != nil {
		t.Error("too big, but kept")
	}
}

// spoil changes all nodes below an expression, spare room included.
func spoil(r api.Regex) {
	for i, kid := range r.Kids[:cap(r.Kids)] {
		spoil(kid)
		r.Kids[:cap(r.Kids)][i] = api.Regex{Kind: 99, Set: 99}
	}
}

// P9.2, rule 4: a grammar is neither changed nor kept, whether it is spoilt ahead of the first cut or behind it.
func TestScannerKeepsNothing(t *testing.T) {
	const text = "a: C(HC)*\nb!: (H|N)+\nc: (V[MC])+C?"
	word := []int{1, 4, 1, 4, 4, 3, 2, 5, 1, 0, 2, 1, 1}
	const want = "0-3:0 3-6:1 6-9:2 9-10:-1 10-13:2"
	for late := range 2 {
		room := append(grammar(t, text), api.Rule{Name: "spare", Regex: cat(set(1), set(2))})
		l := room[:3]
		s := scanner(t, l)
		if late == 1 {
			wantPieces(t, s, word, want)
		}
		for i, r := range append(grammar(t, text), room[3]) {
			if room[i].Name != r.Name || room[i].Broken != r.Broken || !regex.Same(room[i].Regex, r.Regex) {
				t.Error("the grammar was changed", i)
			}
		}
		for i := range l {
			spoil(l[i].Regex)
			l[i] = api.Rule{Name: "x", Regex: set(8), Broken: i != 1}
		}
		wantPieces(t, s, word, want)
		for rule := range 3 {
			if s.Broken(api.Piece{Rule: rule}) != (rule == 1) {
				t.Error("broken hangs on what was handed in", rule)
			}
		}
		if d, e := s.Machine(); e != api.OK || !equal(d, smallest(t, grammar(t, text))) {
			t.Error("the machine hangs on what was handed in")
		}
	}
}

// P9.2: expressions that share their Kids, or lie in spare room.
func TestScannerSharedKids(t *testing.T) {
	kids := []api.Regex{set(2), set(4), set(8), {Kind: 77}}
	pair := api.Regex{Kind: api.KindCat, Kids: kids[:2]}
	l := named(cat(pair, pair), api.Regex{Kind: api.KindAlt, Kids: kids[1:3]}, pair)
	s := scanner(t, l)
	if kids[0].Set != 2 || kids[1].Set != 4 || kids[2].Set != 8 || kids[3].Kind != 77 {
		t.Error("Kids were changed")
	}
	scribble(kids, set(1))
	wantPieces(t, s, []int{1, 2, 1, 2, 1, 2, 3, 2, 1}, "0-4:0 4-6:2 6-7:1 7-8:1 8-9:-1")
}

// P9.2, rule 4: words stay as they are; pieces and machines are new memory, each list its own.
func TestScannerMemory(t *testing.T) {
	for _, text := range texts() {
		l := grammar(t, text)
		s := scanner(t, l)
		word := []int{1, 4, 1, 3, 4, 4, 1, 5, 99, 98}
		was := slices.Clone(word)
		want := Cut(smallest(t, l), word[:9])
		for range 3 {
			p, e := s.Cut(word[:9])
			if e != api.OK || !slices.Equal(p, want) || !slices.Equal(word, was) {
				t.Fatalf("%q: %s, want %s", text, told(p), told(want))
			}
			q, _ := s.Cut(word[:9])
			scribble(p, api.Piece{From: 66, To: 66, Rule: 66})
			if !slices.Equal(q, want) {
				t.Errorf("%q: pieces share memory", text)
			}
			d, _ := s.Machine()
			other, _ := s.Machine()
			scribble(d.Next, [16]int{66})
			scribble(d.Rule, 66)
			if again, e := s.Machine(); e != api.OK || !equal(again, smallest(t, l)) || !equal(other, again) {
				t.Errorf("%q: machines share memory", text)
			}
		}
	}
}

// has says whether a word is one of an expression, by the words of layer 4 alone.
func has(r api.Regex, word []int) bool {
	switch r.Kind {
	case api.KindSet:
		return len(word) == 1 && word[0] >= 0 && word[0] < 16 && r.Set>>word[0]&1 == 1
	case api.KindCat:
		if len(r.Kids) == 1 {
			return has(r.Kids[0], word)
		}
		for i := range len(word) + 1 {
			if has(r.Kids[0], word[:i]) && has(cat(r.Kids[1:]...), word[i:]) {
				return true
			}
		}
		return false
	case api.KindAlt:
		return slices.ContainsFunc(r.Kids, func(kid api.Regex) bool { return has(kid, word) })
	case api.KindStar:
		for i := 1; i <= len(word); i++ {
			if has(r.Kids[0], word[:i]) && has(r, word[i:]) {
				return true
			}
		}
	case api.KindOpt:
		return len(word) == 0 || has(r.Kids[0], word)
	}
	return len(word) == 0
}

// matcher tells the least rule that has a word, -1 if none has. What it told of a word it knows from then on.
func matcher(l []api.Rule) func(word []int) int {
	known := map[string]int{}
	return func(word []int) int {
		name := fmt.Sprint(word)
		rule, ok := known[name]
		if !ok {
			rule = slices.IndexFunc(l, func(r api.Rule) bool { return has(r.Regex, word) })
			known[name] = rule
		}
		return rule
	}
}

// byExpressions holds the pieces of a word against a plain search.
func byExpressions(t *testing.T, name any, s *Scanner, match func(word []int) int, word []int) {
	t.Helper()
	cut := func(w []int) []api.Piece {
		l, e := s.Cut(w)
		if e != api.OK {
			t.Fatal(name, w, e)
		}
		return l
	}
	got := cut(word)
	if want := plainCut(word, match); !slices.Equal(got, want) || !Whole(got, len(word)) {
		t.Fatalf("%v, %v: %s, want %s", name, word, told(got), told(want))
	}
	split(t, name, word, got, cut)
}

// P9.3: all short words, cut by the expressions alone, without a machine; what is left behind a piece is cut as it was.
func TestWords(t *testing.T) {
	for _, text := range texts() {
		l := grammar(t, text)
		s, match := scanner(t, l), matcher(l)
		for _, word := range slices.Concat(words(6, 1, 4), words(5, 1, 3, 4), words(4, 1, 3, 4, 5), words(3, 0, 1, 2, 4, 7, 15, 16, -1)) {
			byExpressions(t, text, s, match, word)
		}
	}
}

// some is a right expression of at most most nodes and a few deep, over the categories 0, 7 and 15.
func some(rnd *rand.Rand, most, deep int) api.Regex {
	if most < 3 || deep < 2 || rnd.Intn(5) == 0 {
		return set([]uint16{1, 1 << 7, 1 << 15, 1 | 1<<7, 1<<7 | 1<<15}[rnd.Intn(5)])
	}
	switch rnd.Intn(6) {
	case 0:
		return star(some(rnd, most-1, deep-1))
	case 1:
		return opt(some(rnd, most-1, deep-1))
	case 2:
		return alt(some(rnd, most/2, deep-1), some(rnd, most/2, deep-1))
	}
	return cat(some(rnd, most/3, deep-1), some(rnd, most/3, deep-1), some(rnd, most/3, deep-1))
}

// someGrammar is a right grammar of 1 to 16 such rules.
func someGrammar(rnd *rand.Rand) []api.Rule {
	var l []api.Regex
	for most := 1 + rnd.Intn(16); len(l) < most; {
		if r := some(rnd, 24, 5); !regex.Empty(r) {
			l = append(l, r)
		}
	}
	return named(l...)
}

// P9.3: any grammars.
func TestWordsAnyGrammars(t *testing.T) {
	rnd := rand.New(rand.NewSource(93))
	short := words(5, 0, 7, 15)
	cut, matched, long := 0, 0, 0
	for range 60 {
		l := someGrammar(rnd)
		s := New(l)
		if s == nil {
			t.Fatal(l)
		}
		match := matcher(l)
		if _, e := dfa.Build(expressions(l)); e != api.OK {
			if _, f := s.Cut(nil); f != e {
				t.Error(l, e, f)
			}
			continue
		}
		for _, word := range short {
			byExpressions(t, l, s, match, word)
			pieces, _ := s.Cut(word)
			for _, p := range pieces {
				if cut++; p.Rule >= 0 {
					matched++
				}
				if p.To-p.From > 2 {
					long++
				}
			}
		}
	}
	if cut-matched < 1000 || matched < 10000 || long < 1000 {
		t.Error("too few of any", cut, matched, long)
	}
}

// everyList hands on all lists of pieces that are whole, each of a rule of some, or of -1.
func everyList(long, most int, take func(l []api.Piece)) {
	var put func(l []api.Piece, at int)
	put = func(l []api.Piece, at int) {
		if at == long {
			take(l)
		}
		for to := at + 1; to <= long; to++ {
			for rule := -1; rule < most; rule++ {
				put(append(slices.Clip(l), api.Piece{From: at, To: to, Rule: rule}), to)
			}
		}
	}
	put(nil, 0)
}

// fits says whether a piece is what P9.3 asks: the longest beginning of what is left that a rule's words have, by the least such rule, or one category, if there is none.
func fits(p api.Piece, word []int, match func(word []int) int) bool {
	for to := len(word); to > p.From; to-- {
		if rule := match(word[p.From:to]); rule >= 0 {
			return p.To == to && p.Rule == rule
		}
	}
	return p.To == p.From+1 && p.Rule == -1
}

// P9.3: of all whole lists of pieces just one is as it must be, and that is what is cut.
func TestOneWay(t *testing.T) {
	for _, text := range []string{"std: C(HC)*\nbad!: [HN]+", "a: C\nb: CHHH", "a: C\nb: C*H", "a: CHC\nb: [CH]+\nc: CHC|N", "b: [CH]+\na: CHC", "a: CC\nb: (CCC)+\nc: CH*N", "n: HN\nm: HH(CC)*N"} {
		l := grammar(t, text)
		s, match := scanner(t, l), matcher(l)
		for _, word := range slices.Concat(words(4, 1, 3, 4), words(5, 1, 4), words(2, 0, 1, 3, 4, 16, -1)) {
			var right [][]api.Piece
			everyList(len(word), len(l), func(list []api.Piece) {
				wrong := func(p api.Piece) bool { return !fits(p, word, match) }
				if Whole(list, len(word)) && !slices.ContainsFunc(list, wrong) {
					right = append(right, list)
				}
			})
			got, e := s.Cut(word)
			if e != api.OK || len(right) != 1 || !slices.Equal(got, right[0]) {
				t.Errorf("%q, %v: %s, of %d lists", text, word, told(got), len(right))
			}
		}
	}
}

// P9.3: a machine whose rule has the empty word cuts as if it hadn't: no piece is empty. (No grammar is right that has such a rule.)
func TestEmptyWord(t *testing.T) {
	for _, l := range [][]api.Regex{
		{star(set(2))}, {api.Regex{}}, {opt(set(2)), set(6)}, {star(cat(set(2), set(4))), set(2)}, {cat(opt(set(2)), opt(set(4))), chain(6, 3)}, {api.Regex{}, star(set(4)), chain(2, 2)},
	} {
		if New(named(l...)) != nil {
			t.Error(l, "a scanner")
		}
		d, e := dfa.Build(l)
		if e != api.OK {
			t.Fatal(l, e)
		}
		match := matcher(named(l...))
		for _, word := range words(5, 1, 2, 3) {
			got := Cut(d, word)
			if want := plainCut(word, match); !slices.Equal(got, want) || !Whole(got, len(word)) {
				t.Fatalf("%v, %v: %s, want %s", l, word, told(got), told(want))
			}
			if !slices.Equal(Cut(mini.Small(d), word), got) {
				t.Error(l, word, "the smallest machine cuts otherwise")
			}
		}
	}
}
