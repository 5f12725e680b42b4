package rules

import (
	"math"
	"math/rand"
	"slices"
	"strconv"
	"strings"
	"testing"

	"reedpen/api"
	"reedpen/regex"
)

// byHand are the letters as the chapter tells them, from 0 on.
func byHand() []string {
	return []string{"O", "C", "V", "N", "H", "M", "S", "R", "J", "W", "D", "K", "G", "T", "Q", "X"}
}

// Expressions, written out. The sets of single letters that the tests use most: C 2, V 4, N 8, H 16, M 32.

func set(s uint16) api.Regex { return api.Regex{Kind: 1, Set: s} }

func cat(l ...api.Regex) api.Regex { return api.Regex{Kind: 2, Kids: l} }

func alt(l ...api.Regex) api.Regex { return api.Regex{Kind: 3, Kids: l} }

func star(r api.Regex) api.Regex { return api.Regex{Kind: 4, Kids: []api.Regex{r}} }

func opt(r api.Regex) api.Regex { return api.Regex{Kind: 5, Kids: []api.Regex{r}} }

func plus(r api.Regex) api.Regex { return cat(r, star(r)) }

func none() api.Regex { return api.Regex{} }

func times(n int, r api.Regex) []api.Regex { return slices.Repeat([]api.Regex{r}, n) }

// wrapped is a text with another wrapped around it, n times.
func wrapped(s string, n int, ahead, behind string) string {
	return strings.Repeat(ahead, n) + s + strings.Repeat(behind, n)
}

// lines are n rules that are right, of unlike names.
func lines(n int) []string {
	var out []string
	for i := range n {
		out = append(out, strings.Repeat("r", i/8+1)+string(rune('a'+i%8))+": C")
	}
	return out
}

// wantRules asks that a text is a grammar of these rules.
func wantRules(t *testing.T, s string, want ...api.Rule) {
	t.Helper()
	l, line, e := Parse(s)
	if e != api.OK || line != 0 || len(l) != len(want) {
		t.Errorf("%.60q: %d rules, line %d, error %d", s, len(l), line, e)
		return
	}
	for i, r := range l {
		if r.Name != want[i].Name || r.Broken != want[i].Broken || !regex.Same(r.Regex, want[i].Regex) {
			t.Errorf("%.60q: rule %d is %v, want %v", s, i, r, want[i])
		}
	}
	if !Right(l) {
		t.Errorf("%.60q: what is told isn't right", s)
	}
}

// wantOne asks that an expression's text is that expression.
func wantOne(t *testing.T, s string, want api.Regex) {
	t.Helper()
	wantRules(t, "a: "+s, api.Rule{Name: "a", Regex: want})
}

// wantRefused asks that a text is refused, by this line and error.
func wantRefused(t *testing.T, s string, wantLine int, want api.Errno) {
	t.Helper()
	if l, line, e := Parse(s); len(l) != 0 || line != wantLine || e != want {
		t.Errorf("%.60q: %d rules, line %d, error %d; want line %d, error %d", s, len(l), line, e, wantLine, want)
	}
}

// P5.1: ordinary texts

func TestParseEachLetter(t *testing.T) {
	for i, letter := range byHand() {
		wantOne(t, letter, set(1<<i))
		wantOne(t, "["+letter+"]", set(1<<i))
		wantOne(t, "("+letter+")", set(1<<i))
		wantOne(t, letter+"+", plus(set(1<<i)))
	}
	wantOne(t, "["+strings.Join(byHand(), "")+"]", set(0xFFFF))
	wantOne(t, "[XQTGKDWJRSMHNVCO]", set(0xFFFF))
}

func TestParseExpressions(t *testing.T) {
	c, v, n, h, m := set(2), set(4), set(8), set(16), set(32)
	for s, want := range map[string]api.Regex{
		"C(HC)*M?":       cat(c, star(cat(h, c)), opt(m)),
		"[NHM]+":         plus(set(56)),
		"CV":             cat(c, v),
		"CVN":            cat(c, v, n),
		"C|V":            alt(c, v),
		"C|V|N":          alt(c, v, n),
		"CV|N":           alt(cat(c, v), n),
		"C|VN":           alt(c, cat(v, n)),
		"C(V|N)":         cat(c, alt(v, n)),
		"(C|V)N":         cat(alt(c, v), n),
		"(C|V)|N":        alt(alt(c, v), n),
		"C|(V|N)":        alt(c, alt(v, n)),
		"((C|V))|N":      alt(alt(c, v), n),
		"(CV)N":          cat(cat(c, v), n),
		"C(VN)":          cat(c, cat(v, n)),
		"((((C))))":      c,
		"(C)(V)":         cat(c, v),
		"((C)((V)))":     cat(c, v),
		"C*V":            cat(star(c), v),
		"C+":             plus(c),
		"C+V":            cat(plus(c), v),
		"VC+":            cat(v, plus(c)),
		"C?V":            cat(opt(c), v),
		"CV?":            cat(c, opt(v)),
		"C|V+":           alt(c, plus(v)),
		"C[VN]*":         cat(c, star(set(12))),
		"C[VN]?":         cat(c, opt(set(12))),
		"(CV)+":          plus(cat(c, v)),
		"(C|V)+":         plus(alt(c, v)),
		"(C+)+":          plus(plus(c)),
		"((C+)+|V)+":     plus(alt(plus(plus(c)), v)),
		"C(V*)*":         cat(c, star(star(v))),
		"C(V?)?":         cat(c, opt(opt(v))),
		"C(V*)?":         cat(c, opt(star(v))),
		"C(V?)+":         cat(c, plus(opt(v))),
		"C()":            cat(c, none()),
		"()C":            cat(none(), c),
		"()()C":          cat(none(), none(), c),
		"C(())":          cat(c, none()),
		"C()*":           cat(c, star(none())),
		"C()+":           cat(c, plus(none())),
		"C()?":           cat(c, opt(none())),
		"C(V|)":          cat(c, alt(v, none())),
		"C(|V)":          cat(c, alt(none(), v)),
		"C(V||N)":        cat(c, alt(v, none(), n)),
		"C(|)":           cat(c, alt(none(), none())),
		"C(||)":          cat(c, alt(none(), none(), none())),
		"C(V|)*N":        cat(c, star(alt(v, none())), n),
		"CC":             cat(c, c),
		"C|C":            alt(c, c),
		"[CV]|[VC]":      alt(set(6), set(6)),
		"(RGK)?C":        cat(opt(cat(set(128), set(4096), set(2048))), c),
		"(RH)?VN?(HC)*M": cat(opt(cat(set(128), h)), v, opt(n), star(cat(h, c)), m),
	} {
		wantOne(t, s, want)
	}
}

func TestParseRules(t *testing.T) {
	wantRules(t, "std: C(HC)*M?\nbad!: [NHM]+",
		api.Rule{Name: "std", Regex: cat(set(2), star(cat(set(16), set(2))), opt(set(32)))},
		api.Rule{Name: "bad", Regex: plus(set(56)), Broken: true})
	wantRules(t, "b!: O\na!: C\nc: O", api.Rule{Name: "b", Regex: set(1), Broken: true}, api.Rule{Name: "a", Regex: set(2), Broken: true}, api.Rule{Name: "c", Regex: set(1)})
	wantRules(t, "a: C\naa: C\nab: C\nb: C", api.Rule{Name: "a", Regex: set(2)}, api.Rule{Name: "aa", Regex: set(2)}, api.Rule{Name: "ab", Regex: set(2)}, api.Rule{Name: "b", Regex: set(2)})
}

// P5.1: the edges that the chapter names

func TestParseNames(t *testing.T) {
	const all = "abcdefghijklmnopqrstuvwxyz"
	for i := range all {
		wantRules(t, all[i:i+1]+"!: C", api.Rule{Name: all[i : i+1], Regex: set(2), Broken: true})
	}
	for n := range 21 {
		name := all[:n]
		for mark, broken := range map[string]bool{"": false, "!": true} {
			text := name + mark + ": C"
			if n >= 1 && n <= 16 {
				wantRules(t, text, api.Rule{Name: name, Regex: set(2), Broken: broken})
				continue
			}
			wantRefused(t, text, 1, api.ErrForm)
			wantRefused(t, "a: C\n"+text, 2, api.ErrForm)
		}
	}
}

func TestParseManyLines(t *testing.T) {
	for n := 1; n < 40; n++ {
		s := strings.Join(lines(n), "\n")
		if n > 16 {
			wantRefused(t, s, 0, api.ErrArg)
			continue
		}
		if l, line, e := Parse(s); len(l) != n || line != 0 || e != api.OK {
			t.Errorf("%d lines: %d rules, line %d, error %d", n, len(l), line, e)
		}
	}
	most := strings.Join(lines(16), "\n")
	wantRefused(t, most+"\n", 0, api.ErrArg) // a line more, if an empty one
	wantRefused(t, "\n"+most, 0, api.ErrArg)
	wantRefused(t, strings.Join(lines(15), "\n")+"\n", 16, api.ErrForm)
	wantRefused(t, strings.Join(lines(15), "\n")+"\n*", 16, api.ErrForm)
	wantRefused(t, strings.Repeat("\n", 16), 0, api.ErrArg)
	wantRefused(t, strings.Repeat("\n", 15), 1, api.ErrForm)
}

func TestParseManyBytes(t *testing.T) {
	most := "a: " + wrapped("C", 998, "(", ")")
	if len(most) != 2000 {
		t.Fatal(len(most))
	}
	wantRules(t, most, api.Rule{Name: "a", Regex: set(2)})
	wantRefused(t, "a"+most, 0, api.ErrArg)
	wantRefused(t, most+"\n", 0, api.ErrArg)
	wantRefused(t, "a: "+strings.Repeat("C", 1997), 1, api.ErrForm)
	wantRefused(t, "a: "+strings.Repeat("C", 1998), 0, api.ErrArg)
	wantRefused(t, strings.Repeat("*", 2000), 1, api.ErrForm)
	wantRefused(t, strings.Repeat("*", 2001), 0, api.ErrArg)
	wantRefused(t, strings.Repeat("\xff", 1<<20), 0, api.ErrArg)
	wantRefused(t, strings.Repeat("é", 1000), 1, api.ErrForm) // bytes are counted, not signs
	wantRefused(t, strings.Repeat("é", 1001), 0, api.ErrArg)
}

func TestParseManyNodes(t *testing.T) {
	c := set(2)
	for n := 90; n < 110; n++ {
		for s, want := range map[string]api.Regex{
			strings.Repeat("C", n):                 cat(times(n, c)...),
			strings.Repeat("[CV]", n):              cat(times(n, set(6))...),
			"C" + strings.Repeat("|C", n-1):        alt(times(n, c)...),
			strings.Repeat("()", n-1) + "C":        cat(append(times(n-1, none()), c)...),
			"C(" + strings.Repeat("|", n-4) + ")V": cat(c, alt(times(n-3, none())...), set(4)),
			strings.Repeat("C", n-3) + "M*N":       cat(append(times(n-3, c), star(set(32)), set(8))...),
			strings.Repeat("C", n-4) + "M+":        cat(append(times(n-4, c), plus(set(32)))...),
			"(" + strings.Repeat("C", n/2) + "V)+": plus(cat(append(times(n/2, c), set(4))...)),
			wrapped("C", n, "(", ")"):              c,
		} {
			if countNodes(want) <= 100 {
				wantOne(t, s, want)
			} else {
				wantRefused(t, "a: "+s, 1, api.ErrForm)
			}
		}
	}
	wantOne(t, "("+strings.Repeat("C", 48)+")+", plus(cat(times(48, c)...))) // 100 nodes
	wantRefused(t, "a: ("+strings.Repeat("C", 49)+")+", 1, api.ErrForm)
	wantRefused(t, "a: C\nb: V\nc: "+strings.Repeat("C", 100)+"\nd: *", 3, api.ErrForm)
}

func countNodes(r api.Regex) int {
	n := 1
	for _, kid := range r.Kids {
		n += countNodes(kid)
	}
	return n
}

func TestParseDeep(t *testing.T) {
	for _, x := range []struct {
		ahead, behind string
		wrap          func(api.Regex) api.Regex
	}{
		{"(", "V)", func(r api.Regex) api.Regex { return cat(r, set(4)) }},
		{"(V", ")", func(r api.Regex) api.Regex { return cat(set(4), r) }},
		{"(", "|V)", func(r api.Regex) api.Regex { return alt(r, set(4)) }},
		{"(V|", ")", func(r api.Regex) api.Regex { return alt(set(4), r) }},
	} {
		for n := range 20 {
			want := set(2)
			for range n {
				want = x.wrap(want)
			}
			s := wrapped("C", n, x.ahead, x.behind)
			if n+1 <= 12 {
				wantOne(t, s, want)
			} else {
				wantRefused(t, "a: "+s, 1, api.ErrForm)
			}
		}
	}
}

func TestParseDeepRepeats(t *testing.T) {
	for sign, wrap := range map[string]func(api.Regex) api.Regex{"*": star, "?": opt} {
		want := set(2)
		for n := range 20 {
			s := "V" + wrapped("C", n, "(", ")"+sign)
			if n+2 <= 12 {
				wantOne(t, s, cat(set(4), want))
			} else {
				wantRefused(t, "a: "+s, 1, api.ErrForm)
			}
			want = wrap(want)
		}
	}
	want := set(2)
	for range 5 {
		want = plus(want)
	}
	five := wrapped("C", 5, "(", ")+")
	wantOne(t, five, want) // 94 nodes, 11 deep
	wantOne(t, five+"|V", alt(want, set(4)))
	wantOne(t, five+"|VCNH", alt(want, cat(set(4), set(2), set(8), set(16)))) // 100 nodes, 12 deep
	wantRefused(t, "a: "+five+"|VCNHM", 1, api.ErrForm)
	wantRefused(t, "a: ("+five+"|V)|C", 1, api.ErrForm) // 13 deep
}

// Each + doubles what stands ahead of it: nothing so great may ever be made.
func TestParseManyDoublings(t *testing.T) {
	for _, within := range []string{"C", "", "C|", "CVN", "[CV]*"} {
		wantRefused(t, "a: "+wrapped(within, 600, "(", ")+"), 1, api.ErrForm)
		wantRefused(t, "a: C"+wrapped(within, 600, "(", ")+")+"\nb: *", 1, api.ErrForm)
	}
	wantRefused(t, "a: "+wrapped("C", 240, "(V(", ")+|)+"), 1, api.ErrForm)
}

// P5.1: wrong texts

func TestParseEmptyLines(t *testing.T) {
	wantRefused(t, "", 1, api.ErrForm)
	wantRefused(t, "\n", 1, api.ErrForm)
	wantRefused(t, "\na: C", 1, api.ErrForm)
	wantRefused(t, "a: C\n", 2, api.ErrForm)
	wantRefused(t, "a: C\n\n", 2, api.ErrForm)
	wantRefused(t, "a: C\n\nb: C", 2, api.ErrForm)
	wantRefused(t, "a: C\nb: C\n\nc: C", 3, api.ErrForm)
	wantRefused(t, "a: C\r\nb: C", 1, api.ErrForm)
	wantRefused(t, "a: C\rb: C", 1, api.ErrForm)
}

func TestParseWrongHeads(t *testing.T) {
	for _, head := range []string{
		"", ":", " ", ": ", "!", "!:", "!: ", "a", "a!", "a:", "a!:", "a ", "a! ", "a :", "a : ", "a :C ", "a! : ", "a !: ", "!a: ", " a: ", "\ta: ", "a:: ", "a!!: ", "a!:!", "a:! ", "a:  ", "a:\t", "a;  ", "a= ",
		"A: ", "aB: ", "Ab: ", "a1: ", "1: ", "a-b: ", "a_b: ", "a.b: ", "a b: ", "a`: ", "a{: ", "`: ", "{: ", "a\x00: ", "\x00a: ", "é: ", "aé: ", "a\xe1: ", "ß: ", "\xff: ", "а: ",
	} {
		for _, expression := range []string{"C", "", "C|V"} {
			wantRefused(t, head+expression, 1, api.ErrForm)
			wantRefused(t, "a: C\nb: V\n"+head+expression, 3, api.ErrForm)
		}
	}
}

// Every byte in each place of a rule: in its name, for its marks, in its expression, in a set.
func TestParseEveryByte(t *testing.T) {
	for b := range 256 {
		s := string([]byte{byte(b)})
		small := b >= 'a' && b <= 'z'
		letter := slices.Index(byHand(), s)
		for text, ok := range map[string]bool{
			"x" + s + "x: C":  small,
			s + ": C":         small,
			"x" + s + ": C":   small || s == "!",
			"x" + s + " C":    s == ":",
			"x:" + s + "C":    s == " ",
			"x: " + s:         letter >= 0,
			"x: " + s + "C":   letter >= 0,
			"x: C" + s:        letter >= 0 || s == "*" || s == "?" || s == "+" || s == "|",
			"x: C" + s + "V":  letter >= 0 || s == "*" || s == "?" || s == "+" || s == "|",
			"x: [" + s + "]":  letter >= 0,
			"x: [H" + s + "]": letter >= 0 && s != "H",
			"x: [" + s + "H]": letter >= 0 && s != "H",
			"x: [HC" + s:      s == "]",
			"x: [HC]" + s:     letter >= 0 || s == "*" || s == "?" || s == "+" || s == "|",
			"x: (C" + s:       s == ")",
		} {
			if text == "x: C*" || text == "x: C?" || text == "x: [HC]*" || text == "x: [HC]?" || text == "x: C|" || text == "x: [HC]|" {
				ok = false // each has the empty word
			}
			wantLine := 1
			if strings.HasPrefix(text, "x: C\n") || strings.HasPrefix(text, "x: [HC]\n") {
				wantLine = 2 // the first one is a rule
			}
			if _, line, e := Parse(text); ok != (e == api.OK) || !ok && (line != wantLine || e != api.ErrForm) {
				t.Errorf("%q: line %d, error %d", text, line, e)
			}
		}
	}
}

func TestParseWrongExpressions(t *testing.T) {
	for _, s := range []string{
		"c", "E", "1", ".", "Ć", "CÄ", "C\x80", "\xff", "C\x00", "C V", " C", "C ", "C\t", "C:", "C!", "a: C", "-C", "C-V", "{C}", "C{2}",
		"[]", "[", "]", "C]", "[]C", "[[C]", "[[C]]", "[C]]", "[C", "C[", "C[V", "[CC]", "[CVC]", "[CVV]", "[C V]", "[C|V]", "[(C)]", "[C*]", "[C]V]", "[^C]", "[C-V]", "[c]", "[Cé]", "[!]",
		"(", ")", "(C", "C)", ")C", "C(", ")(", "C)(", "(C))", "((C)", "(C|V", "C|V)", "(C]", "[C)", "([C)]", "(C|[V)]", "C()V)",
		"*", "+", "?", "*C", "+C", "?C", "C**", "C++", "C??", "C*+", "C+*", "C*?", "C?*", "C+?", "C?+", "C***", "(C)**", "[C]++", "(*C)", "(+)", "C|*", "C|*V", "|*C", "(|+C)", "C(*)", "[*]", "C|?",
	} {
		wantRefused(t, "a: "+s, 1, api.ErrForm)
		wantRefused(t, "b: C\na: "+s, 2, api.ErrForm)
		wantRefused(t, "b: C\na!: "+s+"\nc: C", 2, api.ErrForm)
	}
}

func TestParseEmptyWord(t *testing.T) {
	for _, s := range []string{
		"", "()", "(())", "|", "||", "C|", "|C", "C||V", "(|C)", "(C|)", "C*", "C?", "[CV]*", "[CV]?", "(C)*", "(CV)?", "C*V*", "C?V?", "C*V?N*", "C|V*", "C?|V", "CV|N?", "(C*)+", "(C?)+", "()+", "()*", "()?", "(C|)+", "(C|V|)(N|)", "(C*)",
	} {
		wantRefused(t, "a: "+s, 1, api.ErrForm)
		wantRefused(t, "b!: C\na!: "+s+"\nc: C", 2, api.ErrForm)
	}
}

func TestParseNameAgain(t *testing.T) {
	wantRefused(t, "a: C\na: C", 2, api.ErrForm)
	wantRefused(t, "a: C\na!: V", 2, api.ErrForm)
	wantRefused(t, "a!: C\na: V", 2, api.ErrForm)
	wantRefused(t, "a: C\nb: C\nc: C\nb: C\na: C", 4, api.ErrForm)
	l := lines(16)
	for i := range l {
		for j := range i {
			again := slices.Clone(l)
			again[i] = again[j]
			wantRefused(t, strings.Join(again, "\n"), i+1, api.ErrForm)
		}
	}
}

// The first line that is wrong is told, whatever is wrong with it and with those behind it.
func TestParseFirstWrongLine(t *testing.T) {
	wrong := []string{"", "a", "ra: V", "x: C*", "x: C(", "x: " + strings.Repeat("C", 100), "x: " + wrapped("C", 12, "(V", ")"), "Y: C", "x:C"}
	for i := range 16 {
		for _, first := range wrong {
			for _, second := range wrong {
				l := lines(16)
				if i == 0 && first == "ra: V" {
					continue // nothing stood ahead
				}
				l[i] = first
				if i < 15 {
					l[15] = second
				}
				wantRefused(t, strings.Join(l, "\n"), i+1, api.ErrForm)
			}
		}
	}
}

// P5.1: every short text, held against all that the chapter's words let be made.

// said is an expression's text, and what it is.
type said struct {
	text string
	is   api.Regex
}

// maker makes all texts of a length, of the letters C and H; what was made is kept by its length.
type maker struct {
	onces, items, alternatives, expressions map[int][]said
}

func newMaker() *maker {
	return &maker{map[int][]said{}, map[int][]said{}, map[int][]said{}, map[int][]said{}}
}

func (m *maker) once(n int) []said {
	if l, ok := m.onces[n]; ok {
		return l
	}
	var out []said
	switch n {
	case 1:
		out = append(out, said{"C", set(2)}, said{"H", set(16)})
	case 3:
		out = append(out, said{"[C]", set(2)}, said{"[H]", set(16)})
	case 4:
		out = append(out, said{"[CH]", set(18)}, said{"[HC]", set(18)})
	}
	if n >= 2 {
		for _, x := range m.expression(n - 2) {
			out = append(out, said{"(" + x.text + ")", x.is})
		}
	}
	m.onces[n] = out
	return out
}

func (m *maker) item(n int) []said {
	if l, ok := m.items[n]; ok {
		return l
	}
	out := slices.Clone(m.once(n))
	if n > 1 {
		for _, x := range m.once(n - 1) {
			out = append(out, said{x.text + "*", star(x.is)}, said{x.text + "?", opt(x.is)}, said{x.text + "+", plus(x.is)})
		}
	}
	m.items[n] = out
	return out
}

// rows are all rows of at least one thing whose texts are n bytes together with what stands between two.
func rows(n int, least int, between string, of func(n int) []said) [][]said {
	var out [][]said
	for first := least; first <= n; first++ {
		for _, x := range of(first) {
			if first == n {
				out = append(out, []said{x})
			}
			if rest := n - first - len(between); rest >= least {
				for _, more := range rows(rest, least, between, of) {
					out = append(out, append([]said{x}, more...))
				}
			}
		}
	}
	return out
}

// joined is a row as one, of a kind if it is of several.
func joined(row []said, between string, kind func(...api.Regex) api.Regex) said {
	if len(row) == 1 {
		return row[0]
	}
	var texts []string
	var kids []api.Regex
	for _, x := range row {
		texts = append(texts, x.text)
		kids = append(kids, x.is)
	}
	return said{strings.Join(texts, between), kind(kids...)}
}

func (m *maker) alternative(n int) []said {
	if n == 0 {
		return []said{{"", none()}}
	}
	if l, ok := m.alternatives[n]; ok {
		return l
	}
	var out []said
	for _, row := range rows(n, 1, "", m.item) {
		out = append(out, joined(row, "", cat))
	}
	m.alternatives[n] = out
	return out
}

func (m *maker) expression(n int) []said {
	if l, ok := m.expressions[n]; ok {
		return l
	}
	var out []said
	for _, row := range rows(n, 0, "|", m.alternative) {
		out = append(out, joined(row, "|", alt))
	}
	m.expressions[n] = out
	return out
}

// everyText hands on all texts of n bytes of an alphabet.
func everyText(n int, alphabet string, take func(s string)) {
	b := make([]byte, n)
	var fill func(i int)
	fill = func(i int) {
		if i == n {
			take(string(b))
			return
		}
		for k := range alphabet {
			b[i] = alphabet[k]
			fill(i + 1)
		}
	}
	fill(0)
}

func TestParseEveryShortText(t *testing.T) {
	m := newMaker()
	for n := range 6 {
		made := map[string]api.Regex{}
		for _, x := range m.expression(n) {
			if _, twice := made[x.text]; twice {
				t.Fatalf("%q: made twice", x.text)
			}
			made[x.text] = x.is
		}
		everyText(n, "CH[]()|*+?", func(s string) {
			want, ok := made[s]
			if !ok || regex.Empty(want) {
				wantRefused(t, "a: "+s, 1, api.ErrForm)
			} else {
				wantOne(t, s, want)
			}
		})
	}
}

// written is a text that says an expression, brackets about all that might need them.
func written(r api.Regex) string {
	var parts []string
	for _, kid := range r.Kids {
		parts = append(parts, "("+written(kid)+")")
	}
	switch r.Kind {
	case api.KindSet:
		s := "["
		for c, letter := range byHand() {
			if r.Set>>c&1 == 1 {
				s += letter
			}
		}
		return s + "]"
	case api.KindCat:
		return strings.Join(parts, "")
	case api.KindAlt:
		return strings.Join(parts, "|")
	case api.KindStar:
		return parts[0] + "*"
	case api.KindOpt:
		return parts[0] + "?"
	}
	return ""
}

// some is an expression of about n nodes; one that a text may say: each node of several has two Kids at least.
func some(rnd *rand.Rand, n int) api.Regex {
	if n <= 1 {
		if rnd.Intn(6) == 0 {
			return none()
		}
		return set(uint16(1 + rnd.Intn(0xFFFF)))
	}
	switch rnd.Intn(6) {
	case 0:
		return star(some(rnd, n-1))
	case 1:
		return opt(some(rnd, n-1))
	}
	var kids []api.Regex
	for many := 2 + rnd.Intn(3); many > 0; many-- {
		kids = append(kids, some(rnd, (n-1)/many))
		n -= (n - 1) / many
	}
	if rnd.Intn(2) == 0 {
		return alt(kids...)
	}
	return cat(kids...)
}

func TestParseWhatIsWritten(t *testing.T) {
	rnd := rand.New(rand.NewSource(51))
	for range 3000 {
		r := some(rnd, 1+rnd.Intn(120))
		s := "a: " + written(r)
		switch {
		case len(s) > 2000:
			wantRefused(t, s, 0, api.ErrArg)
		case !regex.Right(r) || regex.Empty(r):
			wantRefused(t, s, 1, api.ErrForm)
		default:
			wantRules(t, s, api.Rule{Name: "a", Regex: r})
		}
	}
}

// TestParseAnything: texts of what grammars are made of, put together anyhow; each is told right or refused.
func TestParseAnything(t *testing.T) {
	rnd := rand.New(rand.NewSource(52))
	parts := append(byHand(), "a: ", "b!: ", "c: ", "\n", "\nd: ", "\ne!: ", "[", "]", "(", ")", "|", "*", "+", "?", " ", ":", "!", "\xff", "é", "(C", "V)", "[CV]", "C+")
	for range 30000 {
		s := "a: "
		for range rnd.Intn(14) {
			s += parts[rnd.Intn(len(parts))]
		}
		l, line, e := Parse(s)
		told := e == api.OK && line == 0 && Right(l) && len(l) == strings.Count(s, "\n")+1
		refused := e == api.ErrForm && len(l) == 0 && line >= 1 && line <= strings.Count(s, "\n")+1
		if !told && !refused {
			t.Fatalf("%q: %v, line %d, error %d", s, l, line, e)
		}
	}
}

// P5.2: Right

// grammar is n rules that are right.
func grammar(n int) []api.Rule {
	var out []api.Rule
	for i := range n {
		out = append(out, api.Rule{Name: strings.Repeat("q", i/26+1) + string(rune('a'+i%26)), Regex: set(uint16(i + 1)), Broken: i%3 == 0})
	}
	return out
}

func TestRightOfManyRules(t *testing.T) {
	for n := range 60 {
		if got := Right(grammar(n)); got != (n >= 1 && n <= 16) {
			t.Errorf("%d rules: %v", n, got)
		}
	}
	if Right(nil) || Right([]api.Rule{}) || Right(make([]api.Rule, 1)) {
		t.Error("of nothing")
	}
}

// wantRight asks whether a rule is right, alone and in each place of a grammar.
func wantRight(t *testing.T, what string, r api.Rule, want bool) {
	t.Helper()
	if Right([]api.Rule{r}) != want {
		t.Errorf("%s: %v", what, !want)
	}
	for i := range 16 {
		l := grammar(16)
		l[i] = r
		if Right(l) != want {
			t.Errorf("%s, as rule %d: %v", what, i, !want)
		}
	}
}

func TestRightOfNames(t *testing.T) {
	for _, broken := range []bool{false, true} {
		for n := range 40 {
			wantRight(t, strconv.Itoa(n)+" letters", api.Rule{Name: strings.Repeat("z", n), Regex: set(1), Broken: broken}, n >= 1 && n <= 16)
		}
		for b := range 256 {
			small := b >= 'a' && b <= 'z'
			for _, name := range []string{string([]byte{byte(b)}), string([]byte{'y', byte(b)}), string([]byte{byte(b), 'y'}), string([]byte{'y', byte(b), 'y'})} {
				wantRight(t, strconv.Quote(name), api.Rule{Name: name, Regex: set(1), Broken: broken}, small)
			}
		}
		for _, name := range []string{"a!", "a:", "é", "ñandu", "a b", " a", "a\n", strings.Repeat("a", 1<<20)} {
			wantRight(t, strconv.Quote(name[:min(len(name), 20)]), api.Rule{Name: name, Regex: set(1), Broken: broken}, false)
		}
	}
}

func TestRightOfNamesAlike(t *testing.T) {
	for i := range 16 {
		for j := range 16 {
			l := grammar(16)
			l[i].Name = l[j].Name
			if Right(l) != (i == j) {
				t.Errorf("the names of %d and %d", i, j)
			}
		}
	}
	for _, broken := range []bool{false, true} {
		if Right([]api.Rule{{Name: "a", Regex: set(1)}, {Name: "a", Regex: set(2), Broken: broken}}) {
			t.Error("alike, with another expression")
		}
	}
	if !Right([]api.Rule{{Name: "a", Regex: set(1)}, {Name: "aa", Regex: set(1)}, {Name: "b", Regex: set(1)}}) {
		t.Error("unlike, with one expression")
	}
}

func TestRightOfExpressions(t *testing.T) {
	deep := set(1)
	for range 11 {
		deep = cat(deep)
	}
	for what, x := range map[string]struct {
		r    api.Regex
		want bool
	}{
		"a set": {set(1), true}, "all categories": {set(0xFFFF), true}, "a cat of one": {cat(set(1)), true}, "an alt of one": {alt(set(1)), true},
		"100 nodes": {cat(times(99, set(1))...), true}, "101 nodes": {cat(times(100, set(1))...), false},
		"12 deep": {deep, true}, "13 deep": {cat(deep), false},
		"nothing": {none(), false}, "a star": {star(set(1)), false}, "an option": {opt(set(1)), false}, "a set or nothing": {alt(set(1), none()), false},
		"stars": {cat(star(set(1)), star(set(2))), false}, "a star and a set": {cat(star(set(1)), set(2)), true}, "nothing and a set": {cat(none(), set(2)), true},
		"an empty set": {set(0), false}, "a cat of none": {cat(), false}, "an alt of none": {alt(), false}, "another kind": {api.Regex{Kind: 6}, false},
		"a cat with a Set": {api.Regex{Kind: 2, Set: 1, Kids: []api.Regex{set(1)}}, false}, "a set with Kids": {api.Regex{Kind: 1, Set: 1, Kids: []api.Regex{set(1)}}, false},
		"a wrong Kid": {cat(set(1), set(0)), false}, "a wrong Kid deep within": {cat(set(1), star(alt(set(1), opt(cat(set(1), api.Regex{Kind: 200}))))), false},
		"a star of two": {cat(set(1), api.Regex{Kind: 4, Kids: []api.Regex{set(1), set(2)}}), false},
	} {
		wantRight(t, what, api.Rule{Name: "z", Regex: x.r}, x.want)
		wantRight(t, what, api.Rule{Name: "z", Regex: x.r, Broken: true}, x.want)
	}
}

// P5.2: letters

// notCats are numbers of no category.
func notCats() []int {
	return []int{-1, 16, 17, -16, 256, 1 << 16, 1 << 32, -1 << 32, math.MinInt, math.MaxInt}
}

func TestLetter(t *testing.T) {
	for c, letter := range byHand() {
		if Letter(c) != letter {
			t.Errorf("Letter(%d) = %q", c, Letter(c))
		}
	}
	for _, c := range notCats() {
		if Letter(c) != "" {
			t.Errorf("Letter(%d) = %q", c, Letter(c))
		}
	}
}

func TestWord(t *testing.T) {
	for c, letter := range byHand() {
		if Word([]int{c}) != letter || Word([]int{c, 1, c}) != letter+"C"+letter {
			t.Errorf("Word of %d", c)
		}
	}
	if s := Word([]int{0, 1, 2, 3, 4, 5, 6, 7, 8, 9, 10, 11, 12, 13, 14, 15}); s != "OCVNHMSRJWDKGTQX" {
		t.Errorf("all: %q", s)
	}
	if Word(nil) != "" || Word([]int{}) != "" {
		t.Error("of nothing")
	}
	for _, c := range notCats() {
		for _, l := range [][]int{{c}, {1, c}, {c, 1}, {1, c, 2}, {1, 2, c}, {c, c}} {
			if s := Word(l); s != "" {
				t.Errorf("%v: %q", l, s)
			}
		}
	}
}

func TestCats(t *testing.T) {
	for b := range 256 {
		c := slices.Index(byHand(), string([]byte{byte(b)}))
		for _, x := range []struct {
			ahead, behind string
			want          []int
		}{{"", "", []int{c}}, {"X", "", []int{15, c}}, {"", "O", []int{c, 0}}, {"CH", "HC", []int{1, 4, c, 4, 1}}} {
			word := x.ahead + string([]byte{byte(b)}) + x.behind
			l, ok := Cats(word)
			if ok != (c >= 0) || ok && !slices.Equal(l, x.want) || !ok && len(l) != 0 {
				t.Errorf("%q: %v, %v", word, l, ok)
			}
		}
	}
	if l, ok := Cats(""); !ok || len(l) != 0 {
		t.Errorf("of nothing: %v, %v", l, ok)
	}
	for _, word := range []string{"c", "Cc", "É", "CÉ", "OC V", "\n", "ＣＨ", "A", "Z", "*", "C\x00"} {
		if l, ok := Cats(word); ok || len(l) != 0 {
			t.Errorf("%q: %v, %v", word, l, ok)
		}
	}
}

// P5.3

func TestCatsOfWord(t *testing.T) {
	rnd := rand.New(rand.NewSource(53))
	for n := range 400 {
		l := make([]int, n)
		for i := range l {
			l[i] = rnd.Intn(16)
		}
		word := Word(l)
		if got, ok := Cats(word); !ok || len(word) != n || !slices.Equal(got, l) {
			t.Fatalf("%v: %q, %v, %v", l, word, got, ok)
		}
	}
}

// The grammars of scripts are such as are told, and right.
func TestParseGrammarsOfScripts(t *testing.T) {
	for _, x := range []struct {
		text  string
		names []string
	}{
		{"std: [CRVDQ]N?(H[JW]?[CR]N?)*[HJW]*T*[MX]*S*\nbad!: [NHMSTXJW]+", []string{"std", "bad"}},
		{"cons: ([CR]N?H[JW]?)*[CR]N?[HJW]*T*[MX]*N?S*\nvow: (RH)?VN?(H[CR]N?)*[MX]*S*\nplace: [DQ]N?(H[CR]N?)*[MX]*S*\nbad!: [NHMSTXJW]+", []string{"cons", "vow", "place", "bad"}},
		{"syl: [CRVD][NGX]*(K[CRV]N?)*[MX]*S*T*\nbad!: [NKGMSXT]+", []string{"syl", "bad"}},
		{"syl: (RGK)?[CRVDQ]N?(K[CR]N?)*G?T*[MX]*G?S*\nbad!: [NKGMSXTH]+", []string{"syl", "bad"}},
	} {
		l, line, e := Parse(x.text)
		if e != api.OK || line != 0 || !Right(l) || len(l) != len(x.names) {
			t.Errorf("%q: %d rules, line %d, error %d", x.text, len(l), line, e)
			continue
		}
		for i, r := range l {
			if r.Name != x.names[i] || r.Broken != (i == len(l)-1) {
				t.Errorf("%q: rule %d is %q, %v", x.text, i, r.Name, r.Broken)
			}
		}
	}
}

// What is handed in, and what is answered.

// places counts how often each place of an expression's lists is held, spare room too.
func places(r api.Regex, held map[*api.Regex]int) {
	room := r.Kids[:cap(r.Kids)]
	for i := range room {
		held[&room[i]]++
	}
	for _, kid := range r.Kids {
		places(kid, held)
	}
}

func TestParseIsNewMemory(t *testing.T) {
	const text = "a: ((C|V)+(HC)+)+M*\nb!: ((CV)+|(NH)+)+\nc: (((C|V)N)+)+"
	first, _, _ := Parse(text)
	second, _, _ := Parse(text)
	if len(first) != 3 || len(second) != 3 {
		t.Fatal(len(first), len(second))
	}
	held := map[*api.Regex]int{}
	for _, r := range slices.Concat(first, second) {
		places(r.Regex, held)
	}
	for _, n := range held {
		if n > 1 {
			t.Error("two lists share a place")
		}
	}
	for i := range first {
		spoil(first[i].Regex)
		first[i] = api.Rule{}
	}
	third, _, _ := Parse(text)
	for i := range second {
		if !regex.Same(second[i].Regex, third[i].Regex) || second[i].Name != third[i].Name {
			t.Errorf("rule %d is another one behind a change of an answer", i)
		}
	}
}

// spoil changes all nodes below an expression.
func spoil(r api.Regex) {
	for i, kid := range r.Kids {
		spoil(kid)
		r.Kids[i] = api.Regex{Kind: 99, Set: 99}
	}
}

func TestCatsIsNewMemory(t *testing.T) {
	a, _ := Cats("CVNH")
	b, _ := Cats("CVNH")
	for i := range a[:cap(a)] {
		a[:cap(a)][i] = 99
	}
	if c, _ := Cats("CVNH"); !slices.Equal(b, []int{1, 2, 3, 4}) || !slices.Equal(c, b) {
		t.Error(b, c)
	}
}

func TestNothingChanged(t *testing.T) {
	room := grammar(20)
	kids := []api.Regex{set(1), set(2), {Kind: 77}}
	room[3].Regex = api.Regex{Kind: 2, Kids: kids[:2]}
	before := slices.Clone(room)
	if !Right(room[:5]) || Right(room[:17]) || Right(room[:0]) {
		t.Error("not as it should be")
	}
	for i, r := range room {
		if r.Name != before[i].Name || r.Broken != before[i].Broken || !regex.Same(r.Regex, before[i].Regex) {
			t.Errorf("rule %d was changed", i)
		}
	}
	if kids[0].Set != 1 || kids[1].Set != 2 || kids[2].Kind != 77 {
		t.Error("Kids were changed")
	}
	cats := []int{1, 4, 15, 99, 98}
	if Word(cats[:3]) != "CHX" || !slices.Equal(cats, []int{1, 4, 15, 99, 98}) {
		t.Error(cats)
	}
}
