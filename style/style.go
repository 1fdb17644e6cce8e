// Package style: how the elements of a tree look, kept up piece by piece: see DOC.md.
package style

import (
	"style/api"
	"style/kept"
	"style/rules"
	"style/tree"
	"style/values"
)

// Check tells whether a text is a sheet (P3).
func Check(sheet string) (api.Errno, int) {
	_, errno, place := rules.Read(sheet)
	return errno, place
}

// Weight tells the weight of a selector (P4).
func Weight(sheet string, rule, selector int) (int, api.Errno) {
	read, errno, _ := rules.Read(sheet)
	if errno != api.OK {
		return 0, errno
	}
	if rule < 0 || rule >= len(read.Rules) {
		return 0, api.ErrArg
	}
	selectors := read.Rules[rule].Selectors
	if selector < 0 || selector >= len(selectors) {
		return 0, api.ErrArg
	}
	return selectors[selector].Weight(), api.OK
}

// Doc is a tree of elements with a sheet.
type Doc struct {
	sheet rules.Sheet
	tree  tree.Tree
	kept  kept.Styles
}

// New makes a document (P5).
func New(sheet string, root string) (*Doc, api.Errno) {
	read, errno, _ := rules.Read(sheet)
	if errno != api.OK {
		return nil, errno
	}
	elements, errno := tree.New(root)
	if errno != api.OK {
		return nil, errno
	}
	return &Doc{sheet: read, tree: elements}, api.OK
}

// Insert makes an element (P6).
func (x *Doc) Insert(parent, at int, kind string) (int, api.Errno) {
	number, errno := x.tree.Insert(parent, at, kind)
	x.staleAfter(errno)
	return number, errno
}

// Remove takes an element out, with all below it (P6).
func (x *Doc) Remove(e int) api.Errno {
	errno := x.tree.Remove(e)
	x.staleAfter(errno)
	return errno
}

// Move puts an element, with all below it, somewhere else (P6).
func (x *Doc) Move(e, parent, at int) api.Errno {
	errno := x.tree.Move(e, parent, at)
	x.staleAfter(errno)
	return errno
}

// Class gives an element a class, or takes it away (P7).
func (x *Doc) Class(e int, class string, on bool) api.Errno {
	errno := x.tree.Class(e, class, on)
	x.staleAfter(errno)
	return errno
}

// Name gives an element a name (P7).
func (x *Doc) Name(e int, name string) api.Errno {
	errno := x.tree.Name(e, name)
	x.staleAfter(errno)
	return errno
}

// Sheet puts another sheet in the place of the document's (P7).
func (x *Doc) Sheet(sheet string) api.Errno {
	read, errno, _ := rules.Read(sheet)
	if errno != api.OK {
		return errno
	}
	x.sheet = read
	x.kept.Drop()
	return api.OK
}

// staleAfter takes all styles for wrong when something has been done; a call that is refused does nothing.
func (x *Doc) staleAfter(errno api.Errno) {
	if errno == api.OK {
		x.kept.Drop()
	}
}

// Children tells the children of an element (P7).
func (x *Doc) Children(e int) ([]int, api.Errno) {
	return x.tree.Children(e)
}

// Query tells the value of a property on an element (P8).
func (x *Doc) Query(e int, property string) (int, api.Errno) {
	if !x.tree.Has(e) {
		return 0, api.ErrElement
	}
	place, ok := values.Property(property)
	if !ok {
		return 0, api.ErrArg
	}
	style := x.styleOf(e)
	return style[place], api.OK
}

// styleOf makes an element fresh and all above it. It begins at the root, as each has to know what its parent has.
func (x *Doc) styleOf(e int) values.Style {
	comes := values.Initial()
	above := x.tree.Above(e)
	for i := len(above) - 1; i >= 0; i-- {
		comes = x.freshen(above[i], comes)
	}
	return x.freshen(e, comes)
}

func (x *Doc) freshen(e int, comes values.Style) values.Style {
	style, fresh := x.kept.Find(e)
	if fresh {
		return style
	}
	style = values.Of(x.sheet, &x.tree, e, comes)
	x.kept.Keep(e, style)
	return style
}

// Show tells that an element is shown, or is not (P12).
func (x *Doc) Show(e int, on bool) api.Errno { return api.OK }

// Stale tells which elements are stale (P9).
func (x *Doc) Stale() []int { return nil }

// Stored tells what is kept of an element (P9).
func (x *Doc) Stored(e int, property string) (int, bool, api.Errno) { return 0, false, api.OK }

// Slice makes some stale elements fresh (P11).
func (x *Doc) Slice(budget int) int { return 0 }
