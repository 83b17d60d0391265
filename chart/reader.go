package chart

import (
	"strconv"

	"tumbrel/api"
	"tumbrel/expr"
	"tumbrel/glyph"
	"tumbrel/guard"
)

// The kinds of words that layer 3 answers, but signs: these are known by their texts.
const (
	nameWord   = 1
	numberWord = 2
)

// reader goes through the words of a chart's text. From its first fault on it stays where that is and reads nothing more, so that whoever calls needn't ask after each word.
type reader struct {
	words []glyph.Word
	next  int
	no    api.Errno
}

// fail keeps the fault at the next word, unless there is one already.
func (r *reader) fail(no api.Errno) {
	if r.no == api.OK {
		r.no = no
	}
}

// sees tells if that word is the next one.
func (r *reader) sees(text string) bool {
	return r.no == api.OK && r.next < len(r.words) && r.words[r.next].Text == text
}

// skips reads that word, if it is the next one, and tells if so.
func (r *reader) skips(text string) bool {
	if !r.sees(text) {
		return false
	}
	r.next++
	return true
}

// must reads that word: it is a fault if another one is next.
func (r *reader) must(text string) {
	if !r.skips(text) {
		r.fail(api.ErrSyntax)
	}
}

// word reads a word of that kind that isn't reserved.
func (r *reader) word(kind int) glyph.Word {
	if r.no != api.OK || r.next == len(r.words) || r.words[r.next].Kind != kind || guard.Reserved(r.words[r.next].Text) {
		r.fail(api.ErrSyntax)
		return glyph.Word{}
	}
	r.next++
	return r.words[r.next-1]
}

// name reads a NAME, and its place.
func (r *reader) name() (string, api.Pos) {
	w := r.word(nameWord)
	return w.Text, w.At
}

// number reads a NUMBER.
func (r *reader) number() int {
	// Layer 3 has seen to its range, and behind a fault the text is empty: so zero is right.
	n, _ := strconv.Atoi(r.word(numberWord).Text)
	return n
}

// expression reads one, to its end.
func (r *reader) expression() expr.Expr {
	if r.no != api.OK {
		return nil
	}
	e, n, no := guard.Take(r.words[r.next:])
	r.next += n
	if no != api.OK {
		r.fail(no)
	}
	return e
}

// last is a fault if words are left.
func (r *reader) last() {
	if r.next < len(r.words) {
		r.fail(api.ErrSyntax)
	}
}

// chart reads a chart.
func (r *reader) chart() Chart {
	var c Chart
	r.must("chart")
	c.Name, c.At = r.name()
	c.Version = r.number()
	r.must("{")
	for r.skips("var") {
		c.Vars = append(c.Vars, r.variable())
	}
	for r.sees("state") {
		c.States = append(c.States, r.state(1))
	}
	r.must("}")
	return c
}

// variable reads what stands behind var.
func (r *reader) variable() Var {
	var v Var
	v.Name, v.At = r.name()
	r.must("=")
	if r.skips("-") {
		v.N = -int64(r.number())
	} else {
		v.N = int64(r.number())
	}
	return v
}

// state reads a state that lies that deep.
func (r *reader) state(deep int) State {
	if deep > api.MaxDeep {
		r.fail(api.ErrDeep)
	}
	var s State
	r.must("state")
	s.Name, s.At = r.name()
	r.must("{")
	r.kind(&s)
	for {
		switch {
		case r.skips("on"):
			s.Ons = append(s.Ons, r.on())
		case r.sees("state"):
			s.Inner = append(s.Inner, r.state(deep+1))
		default:
			r.must("}")
			return s
		}
	}
}

// kind reads what may stand first in a state: all, end, or a step.
func (r *reader) kind(s *State) {
	switch {
	case r.skips("all"):
		s.All = true
	case r.skips("end"):
		s.End = true
	case r.skips("do"):
		s.Do, _ = r.name()
		r.must("undo")
		s.Undo, _ = r.name()
		r.must("at")
		s.Where = r.number()
		r.must("retries")
		s.Retries = r.number()
	}
}

// on reads what stands behind on.
func (r *reader) on() On {
	var o On
	o.Event, o.At = r.name()
	if r.skips("if") {
		o.Guard = r.expression()
	}
	r.must("go")
	o.Target, _ = r.name()
	for r.skips("set") {
		o.Sets = append(o.Sets, r.set())
	}
	return o
}

// set reads what stands behind set.
func (r *reader) set() Set {
	var s Set
	s.Name, _ = r.name()
	r.must("=")
	s.To = r.expression()
	return s
}
