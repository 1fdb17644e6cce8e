package values

import (
	"style/match"
	"style/rules"
	"style/tree"
)

// claim is a declaration of a rule that matches an element. The zero claim is none at all.
type claim struct {
	there     bool
	important bool
	layer     int
	weight    int
	value     rules.Value
}

// winners has the winner for each property, in the order of a style.
type winners [all]claim

func winnersOf(sheet rules.Sheet, t *tree.Tree, e int) winners {
	var w winners
	for _, rule := range sheet.Rules {
		weight, matches := weightFor(rule, t, e)
		if matches {
			w = w.after(rule, weight)
		}
	}
	return w
}

// weightFor tells the greatest weight of a rule's selectors that match an element, and whether one does.
func weightFor(rule rules.Rule, t *tree.Tree, e int) (int, bool) {
	greatest, matches := 0, false
	for _, selector := range rule.Selectors {
		if !match.Selector(selector, t, e) {
			continue
		}
		matches = true
		weight := selector.Weight()
		greatest = max(greatest, weight)
	}
	return greatest, matches
}

// after tells the winners when a rule that stands behind all those asked before is asked too.
func (w winners) after(rule rules.Rule, weight int) winners {
	for _, d := range rule.Declarations {
		place, known := placeOf(d.Property)
		if !known {
			continue
		}
		later := claim{there: true, important: d.Important, layer: rule.Layer, weight: weight, value: d.Value}
		if later.beats(w[place]) {
			w[place] = later
		}
	}
	return w
}

// beats tells whether a claim wins against one that stands ahead of it in the sheet.
func (c claim) beats(earlier claim) bool {
	if !earlier.there {
		return true
	}
	if c.important != earlier.important {
		return c.important
	}
	if c.layer != earlier.layer {
		return (c.layer < earlier.layer) == c.important
	}
	return c.weight >= earlier.weight
}
