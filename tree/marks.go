package tree

import "style/api"

// Class gives an element a class, or takes it away (P7).
func (t *Tree) Class(e int, class string, on bool) api.Errno {
	place, there := t.find(e)
	if !there {
		return api.ErrElement
	}
	letter, ok := oneLetter(class)
	if !ok {
		return api.ErrArg
	}
	t.elements[place].classes[letter-'a'] = on
	return api.OK
}

// Name gives an element a name, or takes it away if the name is empty (P7).
func (t *Tree) Name(e int, name string) api.Errno {
	place, there := t.find(e)
	if !there {
		return api.ErrElement
	}
	if name == "" {
		t.elements[place].name = 0
		return api.OK
	}
	letter, ok := oneLetter(name)
	if !ok {
		return api.ErrArg
	}
	t.elements[place].name = letter
	return api.OK
}

// oneLetter tells the letter of a text that is one letter and nothing else.
func oneLetter(text string) (byte, bool) {
	if len(text) != 1 {
		return 0, false
	}
	return text[0], text[0] >= 'a' && text[0] <= 'z'
}
