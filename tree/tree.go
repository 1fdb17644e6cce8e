// Package tree: the elements of a document, which of them stands under which, and what each is marked with.
package tree

import "style/api"

const (
	root     = 0
	noParent = -1
)

// Tree has its elements in one list. The children of an element are those that name it as their parent,
// in the order of the list, so all below an element goes with it wherever that one is put.
// Removed elements leave nothing behind but the count of those made.
type Tree struct {
	elements []element
	made     int
}

// New makes a tree of the root alone (P5).
func New(kind string) (Tree, api.Errno) {
	letter, ok := oneLetter(kind)
	if !ok {
		return Tree{}, api.ErrArg
	}
	first := element{number: root, parent: noParent, kind: letter}
	return Tree{elements: []element{first}, made: 1}, api.OK
}

// Insert makes an element (P6).
func (t *Tree) Insert(parent, at int, kind string) (int, api.Errno) {
	_, there := t.find(parent)
	if !there {
		return 0, api.ErrElement
	}
	place, ok := placeFor(t.elements, parent, at)
	if !ok {
		return 0, api.ErrPlace
	}
	letter, ok := oneLetter(kind)
	if !ok {
		return 0, api.ErrArg
	}
	if len(t.elements) >= api.MaxElements {
		return 0, api.ErrFull
	}
	number := t.made
	t.made++
	t.elements = with(t.elements, place, element{number: number, parent: parent, kind: letter})
	return number, api.OK
}

// Remove takes an element out, with all below it (P6).
func (t *Tree) Remove(e int) api.Errno {
	_, there := t.find(e)
	if !there {
		return api.ErrElement
	}
	if e == root {
		return api.ErrRoot
	}
	var rest []element
	for _, other := range t.elements {
		if !t.within(other.number, e) {
			rest = append(rest, other)
		}
	}
	t.elements = rest
	return api.OK
}

// Move puts an element, with all below it, somewhere else (P6).
func (t *Tree) Move(e, parent, at int) api.Errno {
	from, there := t.find(e)
	if !there {
		return api.ErrElement
	}
	_, there = t.find(parent)
	if !there {
		return api.ErrElement
	}
	if e == root {
		return api.ErrRoot
	}
	if t.within(parent, e) {
		return api.ErrCycle
	}
	rest := without(t.elements, from)
	to, ok := placeFor(rest, parent, at)
	if !ok {
		return api.ErrPlace
	}
	moved := t.elements[from]
	moved.parent = parent
	t.elements = with(rest, to, moved)
	return api.OK
}

// Children tells the children of an element, in order (P7).
func (t *Tree) Children(e int) ([]int, api.Errno) {
	_, there := t.find(e)
	if !there {
		return nil, api.ErrElement
	}
	var children []int
	for _, other := range t.elements {
		if other.parent == e {
			children = append(children, other.number)
		}
	}
	return children, api.OK
}

// find tells the place of an element in the list.
func (t *Tree) find(number int) (int, bool) {
	for place, e := range t.elements {
		if e.number == number {
			return place, true
		}
	}
	return 0, false
}

// within tells whether an element is another one or below it. No way up is longer than the list.
func (t *Tree) within(number, top int) bool {
	for range t.elements {
		if number == top {
			return true
		}
		number = t.Parent(number)
	}
	return false
}
