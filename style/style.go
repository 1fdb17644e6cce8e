// Package style: how the elements of a tree look, kept up piece by piece: see DOC.md.
package style

import (
	"style/api"
	"style/rules"
	"style/tree"
	"style/values"
)

// Check tells whether a text is a sheet (P3).
func Check(sheet string) (api.Errno, int) {
	_, errno, place := rules.Read(sheet)
	return errno, place
}

// Weight tells the weight of a selector (P4).
func Weight(sheet string, rule, selector int) (int, api.Errno) {
	read, errno, _ := rules.Read(sheet)
	if errno != api.OK {
		return 0, errno
	}
	if rule < 0 || rule >= len(read.Rules) {
		return 0, api.ErrArg
	}
	selectors := read.Rules[rule].Selectors
	if selector < 0 || selector >= len(selectors) {
		return 0, api.ErrArg
	}
	return selectors[selector].Weight(), api.OK
}

// Doc is a tree of elements with a sheet.
type Doc struct {
	sheet rules.Sheet
	tree  tree.Tree
}

// New makes a document (P5).
func New(sheet string, root string) (*Doc, api.Errno) {
	read, errno, _ := rules.Read(sheet)
	if errno != api.OK {
		return nil, errno
	}
	elements, errno := tree.New(root)
	if errno != api.OK {
		return nil, errno
	}
	return &Doc{sheet: read, tree: elements}, api.OK
}

// Insert makes an element (P6).
func (x *Doc) Insert(parent, at int, kind string) (int, api.Errno) {
	return x.tree.Insert(parent, at, kind)
}

// Remove takes an element out, with all below it (P6).
func (x *Doc) Remove(e int) api.Errno {
	return x.tree.Remove(e)
}

// Move puts an element, with all below it, somewhere else (P6).
func (x *Doc) Move(e, parent, at int) api.Errno {
	return x.tree.Move(e, parent, at)
}

// Class gives an element a class, or takes it away (P7).
func (x *Doc) Class(e int, class string, on bool) api.Errno {
	return x.tree.Class(e, class, on)
}

// Name gives an element a name (P7).
func (x *Doc) Name(e int, name string) api.Errno {
	return x.tree.Name(e, name)
}

// Sheet puts another sheet in the place of the document's (P7).
func (x *Doc) Sheet(sheet string) api.Errno {
	read, errno, _ := rules.Read(sheet)
	if errno != api.OK {
		return errno
	}
	x.sheet = read
	return api.OK
}

// Children tells the children of an element (P7).
func (x *Doc) Children(e int) ([]int, api.Errno) {
	return x.tree.Children(e)
}

// Query tells the value of a property on an element (P8).
func (x *Doc) Query(e int, property string) (int, api.Errno) {
	if !x.tree.Has(e) {
		return 0, api.ErrElement
	}
	place, ok := values.Property(property)
	if !ok {
		return 0, api.ErrArg
	}
	style := x.styleOf(e)
	return style[place], api.OK
}

// styleOf begins at the root, as each element has to know what comes from its parent.
func (x *Doc) styleOf(e int) values.Style {
	comes := values.Initial()
	above := x.tree.Above(e)
	for i := len(above) - 1; i >= 0; i-- {
		comes = values.Of(x.sheet, &x.tree, above[i], comes)
	}
	return values.Of(x.sheet, &x.tree, e, comes)
}

// Show tells that an element is shown, or is not (P12).
func (x *Doc) Show(e int, on bool) api.Errno { return api.OK }

// Stale tells which elements are stale (P9).
func (x *Doc) Stale() []int { return nil }

// Stored tells what is kept of an element (P9).
func (x *Doc) Stored(e int, property string) (int, bool, api.Errno) { return 0, false, api.OK }

// Slice makes some stale elements fresh (P11).
func (x *Doc) Slice(budget int) int { return 0 }
