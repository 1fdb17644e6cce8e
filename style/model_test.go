package style_test

import (
	"style/api"
)

// The model holds the tree as nodes that hold their children; the program holds it as one list.
type node struct {
	number   int
	kind     string
	classes  map[string]bool
	name     string
	parent   *node
	children []*node
}

type model struct {
	root *node
	made int
}

func newNode(number int, kind string) *node {
	return &node{number: number, kind: kind, classes: map[string]bool{}}
}

func newModel(root string) *model {
	return &model{root: newNode(0, root), made: 1}
}

func (m *model) all() []*node {
	list := []*node{m.root}
	for i := 0; i < len(list); i++ {
		list = append(list, list[i].children...)
	}
	return list
}

func (m *model) find(number int) *node {
	for _, n := range m.all() {
		if n.number == number {
			return n
		}
	}
	return nil
}

func isLetter(text string) bool {
	return len(text) == 1 && 'a' <= text[0] && text[0] <= 'z'
}

func (n *node) put(at int, child *node) {
	child.parent = n
	children := append([]*node{}, n.children[:at]...)
	children = append(children, child)
	n.children = append(children, n.children[at:]...)
}

func (n *node) takeOut() {
	var rest []*node
	for _, child := range n.parent.children {
		if child != n {
			rest = append(rest, child)
		}
	}
	n.parent.children = rest
}

func (m *model) insert(parent, at int, kind string) (int, api.Errno) {
	p := m.find(parent)
	switch {
	case p == nil:
		return 0, api.ErrElement
	case at < 0 || at > len(p.children):
		return 0, api.ErrPlace
	case !isLetter(kind):
		return 0, api.ErrArg
	case len(m.all()) == api.MaxElements:
		return 0, api.ErrFull
	}
	p.put(at, newNode(m.made, kind))
	m.made++
	return m.made - 1, api.OK
}

func (m *model) remove(e int) api.Errno {
	n := m.find(e)
	switch {
	case n == nil:
		return api.ErrElement
	case n == m.root:
		return api.ErrRoot
	}
	n.takeOut()
	return api.OK
}

func (m *model) move(e, parent, at int) api.Errno {
	n, p := m.find(e), m.find(parent)
	switch {
	case n == nil || p == nil:
		return api.ErrElement
	case n == m.root:
		return api.ErrRoot
	}
	for above := p; above != nil; above = above.parent {
		if above == n {
			return api.ErrCycle
		}
	}
	room := len(p.children)
	if n.parent == p {
		room--
	}
	if at < 0 || at > room {
		return api.ErrPlace
	}
	n.takeOut()
	p.put(at, n)
	return api.OK
}

func (m *model) children(e int) ([]int, api.Errno) {
	n := m.find(e)
	if n == nil {
		return nil, api.ErrElement
	}
	var list []int
	for _, child := range n.children {
		list = append(list, child.number)
	}
	return list, api.OK
}

func (m *model) class(e int, class string, on bool) api.Errno {
	n := m.find(e)
	switch {
	case n == nil:
		return api.ErrElement
	case !isLetter(class):
		return api.ErrArg
	}
	n.classes[class] = on
	return api.OK
}

func (m *model) setName(e int, name string) api.Errno {
	n := m.find(e)
	switch {
	case n == nil:
		return api.ErrElement
	case name != "" && !isLetter(name):
		return api.ErrArg
	}
	n.name = name
	return api.OK
}
