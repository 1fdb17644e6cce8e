package style

import (
	"style/api"
	"style/values"
)

// turned makes stale what a change of an element may tell on.
func (x *Doc) turned(e int) {
	reach := x.tree.Reach(e)
	x.kept.Drop(reach)
}

// placeOf tells where a style has a property, or why an element cannot be asked for it.
func (x *Doc) placeOf(e int, property string) (int, api.Errno) {
	if !x.tree.Has(e) {
		return 0, api.ErrElement
	}
	place, ok := values.Property(property)
	if !ok {
		return 0, api.ErrArg
	}
	return place, api.OK
}

// styleOf makes an element fresh and all above it. It begins at the root, as each has to know what its parent has.
func (x *Doc) styleOf(e int) values.Style {
	comes := values.Initial()
	above := x.tree.Above(e)
	for i := len(above) - 1; i >= 0; i-- {
		comes = x.freshen(above[i], comes)
	}
	return x.freshen(e, comes)
}

func (x *Doc) freshen(e int, comes values.Style) values.Style {
	style, fresh := x.kept.Find(e)
	if fresh {
		return style
	}
	style = values.Of(x.sheet, &x.tree, e, comes)
	x.kept.Keep(e, style)
	return style
}

// staleOf tells which elements of a list are stale.
func (x *Doc) staleOf(list []int) []int {
	var stale []int
	for _, e := range list {
		_, fresh := x.kept.Find(e)
		if !fresh {
			stale = append(stale, e)
		}
	}
	return stale
}

// toDo tells the stale elements in the order in which slices take them: the wanted ones first, and none ahead of one
// above it, so that each is made fresh alone. The two go together, as all above a wanted one are wanted.
func (x *Doc) toDo() []int {
	var wanted, others []int
	downwards := x.tree.Downwards()
	for _, e := range x.staleOf(downwards) {
		if x.tree.Wanted(e) {
			wanted = append(wanted, e)
		} else {
			others = append(others, e)
		}
	}
	return append(wanted, others...)
}
