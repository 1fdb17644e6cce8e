package rules

const (
	nameWeight  = 1000000
	classWeight = 1000
	typeWeight  = 1
)

// Weight tells the weight of a selector.
func (s Selector) Weight() int {
	sum := 0
	for _, compound := range s.Compounds {
		sum += compound.weight()
	}
	return sum
}

func (c Compound) weight() int {
	sum := 0
	if c.Type != 0 {
		sum = typeWeight
	}
	for _, part := range c.Parts {
		sum += part.weight()
	}
	return sum
}

// weight does not ask for Not: what stands behind `!` counts like the rest.
func (p Part) weight() int {
	switch p.Kind {
	case Name:
		return nameWeight
	case Type:
		return typeWeight
	}
	return classWeight
}
