package scan

import (
	"slices"
	"sync"
	"sync/atomic"

	"reedpen/api"
	"reedpen/dfa"
	"reedpen/mini"
	"reedpen/rules"
)

// Scanner cuts by a grammar.
type Scanner struct {
	expressions []api.Regex // none any more once it is ready: the machine tells the same
	broken      []bool      // of each rule
	once        sync.Once
	machine     api.Dfa
	fault       api.Errno // why there is no machine
	cuts        atomic.Int64
}

// New is a grammar's.
func New(l []api.Rule) *Scanner {
	if !rules.Right(l) {
		return nil
	}
	s := &Scanner{}
	for _, rule := range l {
		s.expressions = append(s.expressions, copied(rule.Regex))
		s.broken = append(s.broken, rule.Broken)
	}
	return s
}

// Cut is a word's pieces.
func (s *Scanner) Cut(word []int) ([]api.Piece, api.Errno) {
	d, e := s.ready()
	if e != api.OK {
		return nil, e
	}
	pieces := Cut(d, word)
	s.cuts.Add(int64(len(pieces)))
	return pieces, api.OK
}

// Broken says whether a piece is.
func (s *Scanner) Broken(p api.Piece) bool {
	return s == nil || p.Rule < 0 || p.Rule >= len(s.broken) || s.broken[p.Rule]
}

// Machine is its machine.
func (s *Scanner) Machine() (api.Dfa, api.Errno) {
	d, e := s.ready()
	return api.Dfa{Next: slices.Clone(d.Next), Rule: slices.Clone(d.Rule)}, e
}

// Cuts is how many pieces were cut.
func (s *Scanner) Cuts() int {
	if s == nil {
		return 0
	}
	return int(s.cuts.Load())
}

// ready is the scanner's own machine, which is built when it is asked first, or why there is none.
func (s *Scanner) ready() (api.Dfa, api.Errno) {
	if s == nil {
		return api.Dfa{}, api.ErrArg
	}
	s.once.Do(s.build)
	return s.machine, s.fault
}

// build makes the machine.
func (s *Scanner) build() {
	d, e := dfa.Build(s.expressions)
	s.machine, s.fault = mini.Small(d), e // of the zero machine that stands beside an error there is none smaller
	s.expressions = nil
}

// copied is an expression that is right, in new memory: the Kids that were handed in may be changed ahead of the first cut.
func copied(r api.Regex) api.Regex {
	out := api.Regex{Kind: r.Kind, Set: r.Set}
	for _, kid := range r.Kids {
		out.Kids = append(out.Kids, copied(kid))
	}
	return out
}
