package rules

import "style/api"

// Read takes a text apart. Its errors and their places are those of P3.
func Read(text string) (Sheet, api.Errno, int) {
	if len(text) > api.MaxText {
		return Sheet{}, api.ErrLong, 0
	}
	r := &reader{text: text, many: none}
	sheet, ok := r.sheet()
	if !ok {
		return Sheet{}, api.ErrSyntax, r.at
	}
	if r.many != none {
		return Sheet{}, api.ErrMany, r.many
	}
	return sheet, api.OK, 0
}

// sheet reads on behind a bound: a syntax error comes before too many, wherever it stands.
func (r *reader) sheet() (Sheet, bool) {
	var list []Rule
	for !r.ended() {
		if len(list) == api.MaxRules {
			r.noteMany()
		}
		rule, ok := r.rule()
		if !ok {
			return Sheet{}, false
		}
		list = append(list, rule)
	}
	return Sheet{Rules: list}, true
}

func (r *reader) rule() (Rule, bool) {
	layer, ok := r.layer()
	if !ok {
		return Rule{}, false
	}
	selectors, ok := r.selectors()
	if !ok {
		return Rule{}, false
	}
	declarations, ok := r.block()
	if !ok {
		return Rule{}, false
	}
	return Rule{Layer: layer, Selectors: selectors, Declarations: declarations}, true
}

func (r *reader) layer() (int, bool) {
	named := r.take('@')
	if !named {
		return NoLayer, true
	}
	return r.digit()
}

func (r *reader) block() ([]Declaration, bool) {
	opened := r.take('{')
	if !opened {
		return nil, false
	}
	closed := r.take('}')
	if closed {
		return nil, true
	}
	list, ok := r.declarations()
	if !ok {
		return nil, false
	}
	closed = r.take('}')
	return list, closed
}
