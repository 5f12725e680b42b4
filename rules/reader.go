package rules

import (
	"strings"

	"reedpen/api"
	"reedpen/regex"
)

// reader goes through one line; where that can't be a rule it gives up by a panic, out of however many brackets.
type reader struct {
	line string
	at   int
}

// gaveUp is what a reader panics with.
type gaveUp struct{}

// readRule is the rule that a line says; false, if it is none. Whether that rule may be is not asked here, but for one thing (see copied).
func readRule(line string) (rule api.Rule, ok bool) {
	defer func() {
		if recover() != nil {
			rule, ok = api.Rule{}, false
		}
	}()
	r := &reader{line: line}
	return r.rule(), true
}

// rule is that of the whole line.
func (r *reader) rule() api.Rule {
	name := r.name()
	broken := r.takes('!')
	r.need(':')
	r.need(' ')
	expression := r.expression()
	if r.at < len(r.line) {
		panic(gaveUp{})
	}
	return api.Rule{Name: name, Regex: expression, Broken: broken}
}

// name is the letters a to z that come next. It is a copy, since a piece of the line would keep the whole text that was handed in.
func (r *reader) name() string {
	n := smalls(r.line)
	r.at = n
	return strings.Clone(r.line[:n])
}

// expression is alternatives.
func (r *reader) expression() api.Regex {
	alternatives := []api.Regex{r.alternative()}
	for r.takes('|') {
		alternatives = append(alternatives, r.alternative())
	}
	return together(api.KindAlt, alternatives)
}

// alternative is items, as many as there are.
func (r *reader) alternative() api.Regex {
	var items []api.Regex
	for r.at < len(r.line) && r.line[r.at] != '|' && r.line[r.at] != ')' {
		items = append(items, r.item())
	}
	return together(api.KindCat, items)
}

// item is a letter, a set or brackets, and how often.
func (r *reader) item() api.Regex {
	once := r.once()
	switch {
	case r.takes('*'):
		return node(api.KindStar, once)
	case r.takes('?'):
		return node(api.KindOpt, once)
	case r.takes('+'):
		again := node(api.KindStar, copied(once))
		return node(api.KindCat, once, again)
	}
	return once
}

// once is an item without what stands behind it.
func (r *reader) once() api.Regex {
	switch {
	case r.takes('('):
		within := r.expression()
		r.need(')')
		return within
	case r.takes('['):
		return api.Regex{Kind: api.KindSet, Set: r.set()}
	}
	return api.Regex{Kind: api.KindSet, Set: r.letter()}
}

// set is the letters up to a closing bracket, one at least, none twice.
func (r *reader) set() uint16 {
	set := r.letter()
	for !r.takes(']') {
		more := r.letter()
		if set&more != 0 {
			panic(gaveUp{})
		}
		set |= more
	}
	return set
}

// letter is the category of the next one, as a bit.
func (r *reader) letter() uint16 {
	if r.at == len(r.line) {
		panic(gaveUp{})
	}
	cat := strings.IndexByte(letters, r.line[r.at])
	if cat < 0 {
		panic(gaveUp{})
	}
	r.at++
	return 1 << cat
}

// takes says whether a byte comes next, and goes behind it then.
func (r *reader) takes(b byte) bool {
	if r.at == len(r.line) || r.line[r.at] != b {
		return false
	}
	r.at++
	return true
}

// need goes behind a byte that must come next.
func (r *reader) need(b byte) {
	if !r.takes(b) {
		panic(gaveUp{})
	}
}

// together is a node of some, but of one that one, of none the empty word.
func together(kind byte, l []api.Regex) api.Regex {
	switch len(l) {
	case 0:
		return api.Regex{Kind: api.KindNil}
	case 1:
		return l[0]
	}
	return node(kind, l...)
}

func node(kind byte, kids ...api.Regex) api.Regex { return api.Regex{Kind: kind, Kids: kids} }

// copied is the same in new memory, since no two lists of an answer may share any. It gives up where an expression is too great to be right: whatever holds that isn't right either, and a + around a + around a + would otherwise double it beyond all bounds.
func copied(r api.Regex) api.Regex {
	if !regex.Right(r) {
		panic(gaveUp{})
	}
	return duplicate(r)
}

func duplicate(r api.Regex) api.Regex {
	out := api.Regex{Kind: r.Kind, Set: r.Set}
	for _, kid := range r.Kids {
		out.Kids = append(out.Kids, duplicate(kid))
	}
	return out
}
