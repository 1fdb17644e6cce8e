package style_test

import (
	"regexp"
	"strconv"
	"strings"

	"style/api"
)

// The reference works values out of the model's nodes and the sheet's text. The program goes from a selector's last
// compound to its first; the reference goes from the first to the last, and holds all nodes that each start matches.

const nine = "ABCDEFXYZ"

var (
	partExpression = regexp.MustCompile(`!?(?:[.#:]?[a-z][0-9]*|\*)`)
	initialValues  = map[string]int{"A": 1, "B": 2, "C": 3, "D": 4, "E": 5, "F": 6, "X": 0, "Y": 0, "Z": 0}
)

func (n *node) place() int {
	if n.parent == nil {
		return 1
	}
	for i, child := range n.parent.children {
		if child == n {
			return i + 1
		}
	}
	return 0
}

func (n *node) isLast() bool {
	return n.parent == nil || n.place() == len(n.parent.children)
}

func (n *node) fits(part string) bool {
	switch {
	case part[0] == '!':
		return !n.fits(part[1:])
	case part == "*":
		return true
	case part[0] == '.':
		return n.classes[part[1:]]
	case part[0] == '#':
		return n.name == part[1:]
	case part == ":f":
		return n.place() == 1
	case part == ":l":
		return n.isLast()
	case part == ":e":
		return len(n.children) == 0
	case part[0] == ':':
		for k := 0; k <= 30; k++ {
			if int(part[2]-'0')*k+int(part[3]-'0') == n.place() {
				return true
			}
		}
		return false
	}
	return n.kind == part
}

func (n *node) fitsAll(compound string) bool {
	for _, part := range partExpression.FindAllString(compound, -1) {
		if !n.fits(part) {
			return false
		}
	}
	return true
}

// stands tells whether a node stands to another as the sign between their compounds says.
func (n *node) stands(sign byte, to *node) bool {
	switch sign {
	case '>':
		return to.parent == n
	case '+':
		return n.parent != nil && n.parent == to.parent && n.place()+1 == to.place()
	case '~':
		return n.parent != nil && n.parent == to.parent && n.place() < to.place()
	}
	for above := to.parent; above != nil; above = above.parent {
		if above == n {
			return true
		}
	}
	return false
}

func (m *model) matched(selector string) map[*node]bool {
	var found map[*node]bool
	for i, span := range compoundExpression.FindAllStringIndex(selector, -1) {
		next := map[*node]bool{}
		for _, n := range m.all() {
			if !n.fitsAll(selector[span[0]:span[1]]) {
				continue
			}
			if i == 0 {
				next[n] = true
			}
			for other := range found {
				if other.stands(selector[span[0]-1], n) {
					next[n] = true
				}
			}
		}
		found = next
	}
	return found
}

// claim is a declaration with what decides between it and others, the first first; the greater wins.
type claim struct {
	rank  [4]int
	value string
}

func (c claim) wins(over claim) bool {
	for i := range c.rank {
		if c.rank[i] != over.rank[i] {
			return c.rank[i] > over.rank[i]
		}
	}
	return false
}

// winners has, for each node, the winner of each property that has one.
func (m *model) winners(sheet string) map[*node]map[string]claim {
	found := map[*node]map[string]claim{}
	for _, n := range m.all() {
		found[n] = map[string]claim{}
	}
	for i, rule := range ruleExpression.FindAllString(sheet, -1) {
		weights := map[*node]int{}
		for _, selector := range selectorsOf(rule) {
			for n := range m.matched(selector) {
				weights[n] = max(weights[n], expectedWeight(selector))
			}
		}
		for n, weight := range weights {
			for j, declaration := range declarationsOf(rule) {
				property, c := claimOf(declaration, layerOf(rule), weight, i*api.MaxText+j)
				if old, there := found[n][property]; !there || c.wins(old) {
					found[n][property] = c
				}
			}
		}
	}
	return found
}

func layerOf(rule string) int {
	if rule[0] == '@' {
		return int(rule[1] - '0')
	}
	return 10
}

func declarationsOf(rule string) []string {
	block := rule[strings.IndexByte(rule, '{')+1 : len(rule)-1]
	if block == "" {
		return nil
	}
	return strings.Split(block, ";")
}

func claimOf(declaration string, layer, weight, order int) (string, claim) {
	value := declaration[2:]
	if strings.HasSuffix(value, "!") {
		return declaration[:1], claim{[4]int{1, -layer, weight, order}, value[:len(value)-1]}
	}
	return declaration[:1], claim{[4]int{0, layer, weight, order}, value}
}

// looks has the values of all nodes, worked out from the root down.
func (m *model) looks(sheet string) map[*node]map[string]int {
	winners := m.winners(sheet)
	found := map[*node]map[string]int{}
	for _, n := range m.all() {
		comes := initialValues
		if n.parent != nil {
			comes = found[n.parent]
		}
		found[n] = looksOf(winners[n], comes)
	}
	return found
}

func looksOf(winners map[string]claim, comes map[string]int) map[string]int {
	looks := map[string]int{}
	for _, property := range strings.Split(nine, "") {
		looks[property] = lookOf(winners, property, comes)
	}
	return looks
}

func lookOf(winners map[string]claim, property string, comes map[string]int) int {
	value := winners[property].value
	switch {
	case value == "":
		value = "u"
	case inRing(winners, property):
		value = "i"
	case value[0] == '$':
		return lookOf(winners, value[1:], comes)
	}
	return valueOf(value, property, comes)
}

// inRing goes on for longer than there are variables.
func inRing(winners map[string]claim, start string) bool {
	at := start
	for i := 0; i < 10; i++ {
		value := winners[at].value
		if !strings.HasPrefix(value, "$") {
			return false
		}
		at = value[1:]
		if at == start {
			return true
		}
	}
	return false
}

func valueOf(value, property string, comes map[string]int) int {
	switch {
	case value == "i", value == "u" && !strings.Contains("DEF", property):
		return comes[property]
	case value == "r", value == "u":
		return initialValues[property]
	}
	number, _ := strconv.Atoi(value)
	return number
}
