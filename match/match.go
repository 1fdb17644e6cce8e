// Package match: whether a selector matches an element of a tree.
package match

import (
	"style/rules"
	"style/tree"
)

// Selector tells whether a selector matches an element.
func Selector(s rules.Selector, t *tree.Tree, e int) bool {
	return chain(s.Compounds, t, e)
}

// chain goes from the last compound to the first. Each element that stands as the sign says is tried:
// the compounds ahead may match where a farther one stands and not where the nearest that fits does.
func chain(compounds []rules.Compound, t *tree.Tree, e int) bool {
	if len(compounds) == 0 {
		return false
	}
	last := compounds[len(compounds)-1]
	fits := compound(last, t, e)
	ahead := compounds[:len(compounds)-1]
	if !fits || len(ahead) == 0 {
		return fits
	}
	for _, other := range signed(last.Sign, t, e) {
		if chain(ahead, t, other) {
			return true
		}
	}
	return false
}

// signed tells the elements that stand to an element as a sign says.
func signed(sign byte, t *tree.Tree, e int) []int {
	switch sign {
	case ' ':
		return t.Above(e)
	case '>':
		above := t.Above(e)
		return nearest(above)
	case '~':
		return t.Ahead(e)
	case '+':
		ahead := t.Ahead(e)
		return nearest(ahead)
	}
	return nil
}

func nearest(list []int) []int {
	if len(list) == 0 {
		return nil
	}
	return list[:1]
}

func compound(c rules.Compound, t *tree.Tree, e int) bool {
	if c.Type != 0 && !t.HasType(e, c.Type) {
		return false
	}
	for _, p := range c.Parts {
		if simple(p, t, e) == p.Not {
			return false
		}
	}
	return true
}

// simple leaves out what Not says.
func simple(p rules.Part, t *tree.Tree, e int) bool {
	switch p.Kind {
	case rules.Type:
		return t.HasType(e, p.Letter)
	case rules.Class:
		return t.HasClass(e, p.Letter)
	case rules.Name:
		return t.HasName(e, p.Letter)
	case rules.First:
		return t.Place(e) == 1
	case rules.Last:
		return t.Last(e)
	case rules.Empty:
		return t.Empty(e)
	case rules.Nth:
		place := t.Place(e)
		return nth(place, p.Step, p.Start)
	}
	return false
}

// nth tells whether a place is a step times k plus a start, for a whole k from 0 on.
func nth(place, step, start int) bool {
	if step <= 0 || place < start {
		return place == start
	}
	return (place-start)%step == 0
}
