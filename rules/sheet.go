// Package rules: a sheet taken apart into its rules, selectors and declarations.
package rules

// NoLayer is the layer of a rule that names none.
const NoLayer = 10

// The kinds of a part.
const (
	Type  = 1
	Class = 2
	Name  = 3
	First = 4
	Last  = 5
	Empty = 6
	Nth   = 7
)

// The kinds of a value.
const (
	Number   = 1
	Comes    = 2
	Initial  = 3
	Unset    = 4
	Variable = 5
)

// Sheet is a list of rules, in the order of the text.
type Sheet struct {
	Rules []Rule
}

// Rule is what stands from one closing brace to the next.
type Rule struct {
	Layer        int
	Selectors    []Selector
	Declarations []Declaration
}

// Selector is a chain of compounds, in the order of the text.
type Selector struct {
	Compounds []Compound
}

// Compound has the sign that stands ahead of it (0 for the first of a selector) and a type.
// The type is 0 for `*` and for none at all: both match every element and weigh nothing.
type Compound struct {
	Sign  byte
	Type  byte
	Parts []Part
}

// Part has a letter if its kind is Type, Class or Name, a step and a start if it is Nth.
type Part struct {
	Not    bool
	Kind   int
	Letter byte
	Step   int
	Start  int
}

// Declaration gives a property a value.
type Declaration struct {
	Property  byte
	Value     Value
	Important bool
}

// Value has a number if its kind is Number, a variable if it is Variable.
type Value struct {
	Kind     int
	Number   int
	Variable byte
}
