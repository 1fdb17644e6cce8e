package tree

// Has tells whether there is an element of this number.
func (t *Tree) Has(e int) bool {
	_, there := t.find(e)
	return there
}

// HasType tells whether an element is of a type.
func (t *Tree) HasType(e int, letter byte) bool {
	place, there := t.find(e)
	return there && t.elements[place].kind == letter
}

// HasClass tells whether an element has a class.
func (t *Tree) HasClass(e int, letter byte) bool {
	place, there := t.find(e)
	if !there || letter < 'a' || letter > 'z' {
		return false
	}
	return t.elements[place].classes[letter-'a']
}

// HasName tells whether an element has a name.
func (t *Tree) HasName(e int, letter byte) bool {
	place, there := t.find(e)
	return there && t.elements[place].name == letter
}

// Parent tells the parent of an element. The root's, and that of what is no element, is a number that no element has.
func (t *Tree) Parent(e int) int {
	place, there := t.find(e)
	if !there {
		return noParent
	}
	return t.elements[place].parent
}

// Above tells the elements above an element, the nearest first. No way up is longer than the list.
func (t *Tree) Above(e int) []int {
	var above []int
	for range t.elements {
		e = t.Parent(e)
		if e == noParent {
			return above
		}
		above = append(above, e)
	}
	return above
}

// Ahead tells the children ahead of an element, of the same parent, the nearest first.
// No other element has the root's parent, so the root stands alone, as an only child does.
func (t *Tree) Ahead(e int) []int {
	place, there := t.find(e)
	if !there {
		return nil
	}
	parent := t.elements[place].parent
	var ahead []int
	for i := place - 1; i >= 0; i-- {
		if t.elements[i].parent == parent {
			ahead = append(ahead, t.elements[i].number)
		}
	}
	return ahead
}

// Place tells the place of an element among its parent's children, counted from 1.
func (t *Tree) Place(e int) int {
	ahead := t.Ahead(e)
	return len(ahead) + 1
}

// Last tells whether an element is the last child of its parent.
func (t *Tree) Last(e int) bool {
	place, there := t.find(e)
	if !there {
		return false
	}
	for _, behind := range t.elements[place+1:] {
		if behind.parent == t.elements[place].parent {
			return false
		}
	}
	return true
}

// Empty tells whether an element has no children.
func (t *Tree) Empty(e int) bool {
	for _, other := range t.elements {
		if other.parent == e {
			return false
		}
	}
	return t.Has(e)
}
