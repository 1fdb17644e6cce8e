package rules

import "style/api"

func (r *reader) selectors() ([]Selector, bool) {
	var list []Selector
	more := true
	for more {
		selector, ok := r.selector()
		if !ok {
			return nil, false
		}
		list = append(list, selector)
		more = r.take(',')
	}
	return list, true
}

func (r *reader) selector() (Selector, bool) {
	var list []Compound
	var sign byte
	more := true
	for more {
		if len(list) == api.MaxChain {
			r.noteMany()
		}
		compound, ok := r.compound()
		if !ok {
			return Selector{}, false
		}
		compound.Sign = sign
		list = append(list, compound)
		sign, more = r.sign()
	}
	return Selector{Compounds: list}, true
}

func (r *reader) sign() (byte, bool) {
	next := r.peek()
	switch next {
	case ' ', '>', '+', '~':
		r.at++
		return next, true
	}
	return 0, false
}

func (r *reader) compound() (Compound, bool) {
	kind, headed := r.letter()
	if !headed {
		headed = r.take('*')
	}
	parts, ok := r.parts()
	if !ok {
		return Compound{}, false
	}
	if !headed && len(parts) == 0 {
		return Compound{}, false
	}
	return Compound{Type: kind, Parts: parts}, true
}

func (r *reader) parts() ([]Part, bool) {
	var list []Part
	for r.partAhead() {
		part, ok := r.part()
		if !ok {
			return nil, false
		}
		list = append(list, part)
	}
	return list, true
}

func (r *reader) partAhead() bool {
	next := r.peek()
	switch next {
	case '.', '#', ':', '!':
		return true
	}
	return false
}

func (r *reader) part() (Part, bool) {
	not := r.take('!')
	if !not {
		return r.simplePart()
	}
	kind, typed := r.letter()
	if typed {
		return Part{Not: true, Kind: Type, Letter: kind}, true
	}
	part, ok := r.simplePart()
	part.Not = true
	return part, ok
}

func (r *reader) simplePart() (Part, bool) {
	next := r.peek()
	switch next {
	case '.':
		r.at++
		return r.letterPart(Class)
	case '#':
		r.at++
		return r.letterPart(Name)
	case ':':
		r.at++
		return r.placePart()
	}
	return Part{}, false
}

func (r *reader) letterPart(kind int) (Part, bool) {
	letter, ok := r.letter()
	return Part{Kind: kind, Letter: letter}, ok
}

func (r *reader) placePart() (Part, bool) {
	next := r.peek()
	switch next {
	case 'f':
		r.at++
		return Part{Kind: First}, true
	case 'l':
		r.at++
		return Part{Kind: Last}, true
	case 'e':
		r.at++
		return Part{Kind: Empty}, true
	case 'n':
		r.at++
		return r.nthPart()
	}
	return Part{}, false
}

func (r *reader) nthPart() (Part, bool) {
	step, ok := r.digit()
	if !ok {
		return Part{}, false
	}
	start, ok := r.digit()
	return Part{Kind: Nth, Step: step, Start: start}, ok
}
