package rules

const maxDigits = 3

func (r *reader) declarations() ([]Declaration, bool) {
	var list []Declaration
	more := true
	for more {
		declaration, ok := r.declaration()
		if !ok {
			return nil, false
		}
		list = append(list, declaration)
		more = r.take(';')
	}
	return list, true
}

func (r *reader) declaration() (Declaration, bool) {
	property, ok := r.property()
	if !ok {
		return Declaration{}, false
	}
	ok = r.take(':')
	if !ok {
		return Declaration{}, false
	}
	value, ok := r.value()
	if !ok {
		return Declaration{}, false
	}
	important := r.take('!')
	return Declaration{Property: property, Value: value, Important: important}, true
}

func (r *reader) value() (Value, bool) {
	next := r.peek()
	switch next {
	case 'i':
		r.at++
		return Value{Kind: Comes}, true
	case 'r':
		r.at++
		return Value{Kind: Initial}, true
	case 'u':
		r.at++
		return Value{Kind: Unset}, true
	case '$':
		r.at++
		variable, ok := r.variable()
		return Value{Kind: Variable, Variable: variable}, ok
	}
	number, ok := r.number()
	return Value{Kind: Number, Number: number}, ok
}

func (r *reader) number() (int, bool) {
	number, ok := r.digit()
	if !ok {
		return 0, false
	}
	for taken := 1; taken < maxDigits; taken++ {
		digit, more := r.digit()
		if !more {
			return number, true
		}
		number = number*10 + digit
	}
	return number, true
}
