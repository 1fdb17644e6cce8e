// Package style: how the elements of a tree look, kept up piece by piece: see DOC.md.
package style

import (
	"style/api"
	"style/kept"
	"style/rules"
	"style/tree"
)

// Check tells whether a text is a sheet (P3).
func Check(sheet string) (api.Errno, int) {
	_, errno, place := rules.Read(sheet)
	return errno, place
}

// Weight tells the weight of a selector (P4).
func Weight(sheet string, rule, selector int) (int, api.Errno) {
	read, errno, _ := rules.Read(sheet)
	if errno != api.OK {
		return 0, errno
	}
	if rule < 0 || rule >= len(read.Rules) {
		return 0, api.ErrArg
	}
	selectors := read.Rules[rule].Selectors
	if selector < 0 || selector >= len(selectors) {
		return 0, api.ErrArg
	}
	return selectors[selector].Weight(), api.OK
}

// Doc is a tree of elements with a sheet.
type Doc struct {
	sheet rules.Sheet
	tree  tree.Tree
	kept  kept.Styles
}

// New makes a document (P5).
func New(sheet string, root string) (*Doc, api.Errno) {
	read, errno, _ := rules.Read(sheet)
	if errno != api.OK {
		return nil, errno
	}
	elements, errno := tree.New(root)
	if errno != api.OK {
		return nil, errno
	}
	return &Doc{sheet: read, tree: elements}, api.OK
}

// Insert makes an element (P6).
func (x *Doc) Insert(parent, at int, kind string) (int, api.Errno) {
	number, errno := x.tree.Insert(parent, at, kind)
	if errno == api.OK {
		x.turned(parent)
	}
	return number, errno
}

// Remove takes an element out, with all below it (P6). What is kept of them has to go too, so the reach
// is asked for while they are still there.
func (x *Doc) Remove(e int) api.Errno {
	parent := x.tree.Parent(e)
	reach := x.tree.Reach(parent)
	errno := x.tree.Remove(e)
	if errno == api.OK {
		x.kept.Drop(reach)
	}
	return errno
}

// Move puts an element, with all below it, somewhere else (P6).
func (x *Doc) Move(e, parent, at int) api.Errno {
	old := x.tree.Parent(e)
	errno := x.tree.Move(e, parent, at)
	if errno == api.OK {
		x.turned(old)
		x.turned(parent)
	}
	return errno
}

// Class gives an element a class, or takes it away (P7).
func (x *Doc) Class(e int, class string, on bool) api.Errno {
	letter, errno := x.tree.Class(e, class, on)
	if x.sheet.Names(rules.Class, letter) {
		x.turned(e)
	}
	return errno
}

// Name gives an element a name (P7).
func (x *Doc) Name(e int, name string) api.Errno {
	old, now, errno := x.tree.Name(e, name)
	oldTells := x.sheet.Names(rules.Name, old)
	nowTells := x.sheet.Names(rules.Name, now)
	if old != now && (oldTells || nowTells) {
		x.turned(e)
	}
	return errno
}

// Sheet puts another sheet in the place of the document's (P7).
func (x *Doc) Sheet(sheet string) api.Errno {
	read, errno, _ := rules.Read(sheet)
	if errno != api.OK {
		return errno
	}
	x.sheet = read
	x.kept = kept.Styles{}
	return api.OK
}

// Children tells the children of an element (P7).
func (x *Doc) Children(e int) ([]int, api.Errno) {
	return x.tree.Children(e)
}

// Query tells the value of a property on an element (P8).
func (x *Doc) Query(e int, property string) (int, api.Errno) {
	place, errno := x.placeOf(e, property)
	if errno != api.OK {
		return 0, errno
	}
	style := x.styleOf(e)
	return style[place], api.OK
}

// Show tells that an element is shown, or is not (P12).
func (x *Doc) Show(e int, on bool) api.Errno {
	return x.tree.Show(e, on)
}

// Stale tells which elements are stale (P9).
func (x *Doc) Stale() []int {
	numbers := x.tree.Numbers()
	return x.staleOf(numbers)
}

// Stored tells what is kept of an element (P9): of a stale one nothing, which Find answers as zeros.
func (x *Doc) Stored(e int, property string) (int, bool, api.Errno) {
	place, errno := x.placeOf(e, property)
	if errno != api.OK {
		return 0, false, errno
	}
	style, fresh := x.kept.Find(e)
	return style[place], fresh, api.OK
}

// Slice makes some stale elements fresh (P11).
func (x *Doc) Slice(budget int) int {
	made := 0
	for _, e := range x.toDo() {
		if made >= budget {
			return made
		}
		x.styleOf(e)
		made++
	}
	return made
}
