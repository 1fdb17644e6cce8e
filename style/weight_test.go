package style_test

import (
	"math/rand"
	"strings"
	"testing"

	"style/api"
	"style/style"
)

type weightCase struct {
	sheet          string
	rule, selector int
	weight         int
	errno          api.Errno
}

func tryWeights(t *testing.T, cases []weightCase) {
	t.Helper()
	for _, c := range cases {
		weight, errno := style.Weight(c.sheet, c.rule, c.selector)
		if weight != c.weight || errno != c.errno {
			t.Errorf("P4: Weight(%.80q, %d, %d) = %d, %d, want %d, %d", c.sheet, c.rule, c.selector, weight, errno, c.weight, c.errno)
		}
	}
}

func TestWeightOfEachPart(t *testing.T) {
	for _, c := range []struct {
		selector string
		weight   int
	}{
		{"*", 0}, {"a", 1}, {".a", 1000}, {"#a", 1000000}, {":f", 1000}, {":l", 1000}, {":e", 1000}, {":n12", 1000}, {":n00", 1000},
		{"!a", 1}, {"!.a", 1000}, {"!#a", 1000000}, {"!:f", 1000}, {"!:l", 1000}, {"!:e", 1000}, {"!:n12", 1000},
		{"*.a", 1000}, {"a!a", 2}, {"* *>*~*", 0}, {"a b", 2}, {"a>b", 2}, {"a+b", 2}, {"a~b~c~d", 4}, {"*>a.b #c!d+!#e:f", 2002002},
		{"a.a.a.a", 3001}, {"#a#a", 2000000}, {"a b.c", 1002},
	} {
		tryWeights(t, []weightCase{
			{c.selector + "{}", 0, 0, c.weight, api.OK},
			{"@4" + c.selector + "{A:1!}", 0, 0, c.weight, api.OK},
			{"#x{}a,b," + c.selector + ",.c{X:$Y}#y{}", 1, 2, c.weight, api.OK},
		})
	}
}

func TestWeightAtTheBounds(t *testing.T) {
	tryWeights(t, []weightCase{
		{"a.b>*!:f,#c{}", 0, 0, 2001, api.OK}, {"a.b>*!:f,#c{}", 0, 1, 1000000, api.OK},
		{strings.Repeat("#a", 199) + "{}", 0, 0, 199000000, api.OK}, {strings.Repeat(".a", 199) + "{}", 0, 0, 199000, api.OK},
		{strings.Repeat("!a", 199) + "{}", 0, 0, 199, api.OK}, {strings.Repeat("#a", 200) + "{}", 0, 0, 0, api.ErrLong},
		{strings.Repeat("a{}", api.MaxRules-1) + ".a{}", api.MaxRules - 1, 0, 1000, api.OK},
		{strings.Repeat("a,", 198) + ".a{}", 0, 198, 1000, api.OK}, {strings.Repeat("a,", 198) + ".a{}", 0, 199, 0, api.ErrArg},
	})
}

func TestWeightOfWhatIsNotThere(t *testing.T) {
	const least, most = -1 << 63, 1<<63 - 1
	for _, wrong := range []int{least, least + 1, -1 << 32, -2, -1, 2, 3, 20, 400, 1 << 32, most - 1, most} {
		tryWeights(t, []weightCase{
			{"a,b{}c,d{}", wrong, 0, 0, api.ErrArg}, {"a,b{}c,d{}", 0, wrong, 0, api.ErrArg},
			{"a,b{}c,d{}", 1, wrong, 0, api.ErrArg}, {"a,b{}c,d{}", wrong, wrong, 0, api.ErrArg},
			{"", wrong, 0, 0, api.ErrArg},
		})
	}
	tryWeights(t, []weightCase{
		{"", 0, 0, 0, api.ErrArg}, {"a{}", 1, 0, 0, api.ErrArg}, {"a{}", 0, 1, 0, api.ErrArg}, {"a,b{}c{}", 1, 1, 0, api.ErrArg},
	})
}

func TestWeightTellsTheErrorOfCheckFirst(t *testing.T) {
	for _, number := range []int{-1, 0, 1, 99} {
		tryWeights(t, []weightCase{
			{"a", number, number, 0, api.ErrSyntax}, {"a{}?", number, 0, 0, api.ErrSyntax}, {"a b c d e{}", number, 0, 0, api.ErrMany},
			{strings.Repeat("a{}", 21), number, 0, 0, api.ErrMany}, {strings.Repeat("a", 401), number, 0, 0, api.ErrLong},
		})
	}
}

func TestWeightAgainstTheOracle(t *testing.T) {
	random := rand.New(rand.NewSource(2))
	for i := 0; i < 3000; i++ {
		sheet := randomSheet(random)
		if errno, _ := expectedCheck(sheet); errno != api.OK {
			tryWeights(t, []weightCase{{sheet, 0, 0, 0, errno}})
			continue
		}
		rules := ruleExpression.FindAllString(sheet, -1)
		for at, rule := range rules {
			selectors := selectorsOf(rule)
			for k, selector := range selectors {
				tryWeights(t, []weightCase{{sheet, at, k, expectedWeight(selector), api.OK}})
			}
			tryWeights(t, []weightCase{{sheet, at, len(selectors), 0, api.ErrArg}})
		}
		tryWeights(t, []weightCase{{sheet, len(rules), 0, 0, api.ErrArg}})
	}
}
