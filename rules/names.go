package rules

// Names tells whether a letter stands as a class or as a name (the kind says which) in some selector.
// It does not ask for Not: what stands behind `!` hangs on the element's letters like the rest.
func (s Sheet) Names(kind int, letter byte) bool {
	for _, rule := range s.Rules {
		for _, selector := range rule.Selectors {
			if selector.names(kind, letter) {
				return true
			}
		}
	}
	return false
}

func (s Selector) names(kind int, letter byte) bool {
	for _, compound := range s.Compounds {
		for _, part := range compound.Parts {
			if part.Kind == kind && part.Letter == letter {
				return true
			}
		}
	}
	return false
}
