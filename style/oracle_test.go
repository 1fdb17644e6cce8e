package style_test

import (
	"math/rand"
	"regexp"
	"strings"

	"style/api"
)

// The oracle tells by a regular expression what the program tells by reading byte for byte.
const (
	simplePattern      = `(?:[.#][a-z]|:[fle]|:n[0-9][0-9])`
	partPattern        = `(?:` + simplePattern + `|![a-z]|!` + simplePattern + `)`
	compoundPattern    = `(?:[a-z*]` + partPattern + `*|` + partPattern + `+)`
	selectorPattern    = compoundPattern + `(?:[ >+~]` + compoundPattern + `)*`
	declarationPattern = `[A-FXYZ]:(?:[0-9]{1,3}|[iru]|\$[XYZ])!?`
	blockPattern       = `\{(?:` + declarationPattern + `(?:;` + declarationPattern + `)*)?\}`
	rulePattern        = `(?:@[0-9])?` + selectorPattern + `(?:,` + selectorPattern + `)*` + blockPattern
)

var (
	sheetExpression    = regexp.MustCompile(`\A(?:` + rulePattern + `)*\z`)
	ruleExpression     = regexp.MustCompile(rulePattern)
	compoundExpression = regexp.MustCompile(compoundPattern)
)

// endings has, for each place at which a sheet may be cut off, a text that makes it whole again.
var endings = []string{"", "}", "{}", "a{}", "0a{}", "f{}", "00{}", "0{}", "A:1}", ":1}", "1}", "X}"}

func canGoOn(prefix string) bool {
	for _, ending := range endings {
		if sheetExpression.MatchString(prefix + ending) {
			return true
		}
	}
	return false
}

func expectedCheck(sheet string) (api.Errno, int) {
	if len(sheet) > api.MaxText {
		return api.ErrLong, 0
	}
	if !sheetExpression.MatchString(sheet) {
		return api.ErrSyntax, longestStart(sheet)
	}
	if place := expectedMany(sheet); place >= 0 {
		return api.ErrMany, place
	}
	return api.OK, 0
}

// longestStart halves: if a text can go on to a sheet, so can all its starts.
func longestStart(sheet string) int {
	good, bad := 0, len(sheet)+1
	for bad-good > 1 {
		middle := (good + bad) / 2
		if canGoOn(sheet[:middle]) {
			good = middle
		} else {
			bad = middle
		}
	}
	return good
}

func expectedMany(sheet string) int {
	for i, rule := range ruleExpression.FindAllStringIndex(sheet, -1) {
		if i == api.MaxRules {
			return rule[0]
		}
		start := rule[0]
		for _, selector := range selectorsOf(sheet[rule[0]:rule[1]]) {
			start += strings.Index(sheet[start:], selector)
			compounds := compoundExpression.FindAllStringIndex(selector, -1)
			if len(compounds) > api.MaxChain {
				return start + compounds[api.MaxChain][0]
			}
			start += len(selector)
		}
	}
	return -1
}

func selectorsOf(rule string) []string {
	if rule[0] == '@' {
		rule = rule[2:]
	}
	return strings.Split(rule[:strings.IndexByte(rule, '{')], ",")
}

// expectedWeight counts signs: a letter is a type unless it stands behind `.`, `#` or `:`.
func expectedWeight(selector string) int {
	weight := 0
	for i := 0; i < len(selector); i++ {
		switch b := selector[i]; {
		case b == '#':
			weight += 1000000
		case b == '.' || b == ':':
			weight += 1000
		case b >= 'a' && b <= 'z' && (i == 0 || !strings.ContainsRune(".#:", rune(selector[i-1]))):
			weight++
		}
	}
	return weight
}

func pick(random *rand.Rand, from ...string) string {
	return from[random.Intn(len(from))]
}

func randomPart(random *rand.Rand) string {
	simple := pick(random, ".a", ".z", "#a", "#n", ":f", ":l", ":e", ":n00", ":n21", ":n99")
	return pick(random, simple, simple, "!"+simple, "!a", "!n")
}

func randomCompound(random *rand.Rand) string {
	parts := ""
	for random.Intn(5) < 2 {
		parts += randomPart(random)
	}
	return pick(random, "a"+parts, "f"+parts, "*"+parts, parts+randomPart(random))
}

func randomSelector(random *rand.Rand) string {
	selector := randomCompound(random)
	for random.Intn(5) < 2 {
		selector += pick(random, " ", ">", "+", "~") + randomCompound(random)
	}
	return selector
}

func randomDeclaration(random *rand.Rand) string {
	property := pick(random, "A", "B", "C", "D", "E", "F", "X", "Y", "Z")
	value := pick(random, "0", "12", "999", "000", "i", "r", "u", "$X", "$Y", "$Z")
	return property + ":" + value + pick(random, "", "", "!")
}

func randomRule(random *rand.Rand) string {
	rule := pick(random, "", "", "@0", "@9") + randomSelector(random)
	for random.Intn(4) == 0 {
		rule += "," + randomSelector(random)
	}
	rule += "{"
	if random.Intn(3) > 0 {
		rule += randomDeclaration(random)
		for random.Intn(3) == 0 {
			rule += ";" + randomDeclaration(random)
		}
	}
	return rule + "}"
}

func randomSheet(random *rand.Rand) string {
	sheet := ""
	for n := random.Intn(26); n > 0; n-- {
		sheet += randomRule(random)
	}
	return sheet
}

// spoil puts in, takes out or changes a byte, or cuts the text off.
func spoil(random *rand.Rand, sheet string) string {
	at := random.Intn(len(sheet) + 1)
	b := string([]byte{byte(random.Intn(256))})
	if random.Intn(4) > 0 {
		b = pick(random, strings.Split("a.#:!*@{};,>+~ $A1fnX\x00\xff", "")...)
	}
	switch way := random.Intn(4); {
	case way == 0 || at == len(sheet):
		return sheet[:at] + b + sheet[at:]
	case way == 1:
		return sheet[:at] + b + sheet[at+1:]
	case way == 2:
		return sheet[:at] + sheet[at+1:]
	}
	return sheet[:at]
}
