package tree

import "style/api"

// Class gives an element a class, or takes it away (P7). It tells the class's letter, or 0 if all is as it was.
func (t *Tree) Class(e int, class string, on bool) (byte, api.Errno) {
	place, there := t.find(e)
	if !there {
		return 0, api.ErrElement
	}
	letter, ok := oneLetter(class)
	if !ok {
		return 0, api.ErrArg
	}
	if t.elements[place].classes[letter-'a'] == on {
		return 0, api.OK
	}
	t.elements[place].classes[letter-'a'] = on
	return letter, api.OK
}

// Name gives an element a name, or takes it away if the name is empty (P7). It tells the old name and the new one,
// 0 for none.
func (t *Tree) Name(e int, name string) (byte, byte, api.Errno) {
	place, there := t.find(e)
	if !there {
		return 0, 0, api.ErrElement
	}
	letter, ok := oneLetter(name)
	if !ok && name != "" {
		return 0, 0, api.ErrArg
	}
	old := t.elements[place].name
	t.elements[place].name = letter
	return old, letter, api.OK
}

// Show tells that an element is shown, or is not (P12).
func (t *Tree) Show(e int, on bool) api.Errno {
	place, there := t.find(e)
	if !there {
		return api.ErrElement
	}
	t.elements[place].shown = on
	return api.OK
}

// oneLetter tells the letter of a text that is one letter and nothing else.
func oneLetter(text string) (byte, bool) {
	if len(text) != 1 {
		return 0, false
	}
	return text[0], text[0] >= 'a' && text[0] <= 'z'
}
