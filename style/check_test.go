package style_test

import (
	"math/rand"
	"strings"
	"testing"

	"style/api"
	"style/style"
)

type checkCase struct {
	sheet string
	errno api.Errno
	place int
}

func tryChecks(t *testing.T, cases []checkCase) {
	t.Helper()
	for _, c := range cases {
		errno, place := style.Check(c.sheet)
		if errno != c.errno || place != c.place {
			t.Errorf("P3: Check(%.80q) = %d, %d, want %d, %d", c.sheet, errno, place, c.errno, c.place)
		}
	}
}

func TestCheckTakesSheets(t *testing.T) {
	var cases []checkCase
	for _, sheet := range []string{
		"", "a{}", "z{}", "*{A:1}", ".a.b#c:f:n21!a!:e{A:12;D:$X!}", "@3a~b,c d>e+f{X:$Y;Y:i}a{}",
		"a.b>*!:f,#c{A:12;D:$X!}@3a~b:n21{}",
		"@0a{}@9a{}", ".a{}", "#a{}", ":f{}", ":l{}", ":e{}", ":n09{}", "!a{}", "!.a{}", "!#a{}", "!:n10{}",
		"*.a!b{}", "!a!b!c{}", "* *{}", "*>*+*~*{}", "n:n12 n{}",
		"a{A:0}", "a{A:00}", "a{A:000}", "a{A:999!}", "a{A:1;A:1;A:1}",
		"a{A:i;B:r;C:u;D:$X;E:$Y;F:$Z;X:$X;Y:1;Z:2}", "a,a,a{}",
	} {
		cases = append(cases, checkCase{sheet, api.OK, 0})
	}
	tryChecks(t, cases)
}

func TestCheckTellsTheFirstWrongByte(t *testing.T) {
	tryChecks(t, []checkCase{
		{"a{A:1234}", api.ErrSyntax, 7}, {"a{A:}", api.ErrSyntax, 4}, {"a {}", api.ErrSyntax, 2},
		{"ab{}", api.ErrSyntax, 1}, {"a{A:$A}", api.ErrSyntax, 5}, {"a!*{}", api.ErrSyntax, 2},
		{"a.b>*!:f,#c{A:12;D:$X!}@3 a~b:n21{}", api.ErrSyntax, 25},
		{"{}", api.ErrSyntax, 0}, {"}", api.ErrSyntax, 0}, {";", api.ErrSyntax, 0}, {"1{}", api.ErrSyntax, 0},
		{">a{}", api.ErrSyntax, 0}, {"@3{}", api.ErrSyntax, 2}, {"@3,a{}", api.ErrSyntax, 2},
		{"a@3{}", api.ErrSyntax, 1}, {"a{}@3@3a{}", api.ErrSyntax, 5}, {"a,@3b{}", api.ErrSyntax, 2},
		{"a ,b{}", api.ErrSyntax, 2}, {"a, b{}", api.ErrSyntax, 2}, {"a > b{}", api.ErrSyntax, 2},
		{"a. b{}", api.ErrSyntax, 2}, {".*{}", api.ErrSyntax, 1}, {"#1{}", api.ErrSyntax, 1}, {":g{}", api.ErrSyntax, 1},
		{":F{}", api.ErrSyntax, 1}, {":n{}", api.ErrSyntax, 2}, {":n1a{}", api.ErrSyntax, 3}, {":n123{}", api.ErrSyntax, 4}, {"n:n12n{}", api.ErrSyntax, 5},
		{".a*{}", api.ErrSyntax, 2}, {".ab{}", api.ErrSyntax, 2}, {"!ab{}", api.ErrSyntax, 2}, {"!!a{}", api.ErrSyntax, 1},
		{"! a{}", api.ErrSyntax, 1}, {"!{}", api.ErrSyntax, 1}, {"`{}", api.ErrSyntax, 0}, {"{{}", api.ErrSyntax, 0},
		{"a{a:1}", api.ErrSyntax, 2}, {"a{W:1}", api.ErrSyntax, 2}, {"a{G:1}", api.ErrSyntax, 2}, {"a{[:1}", api.ErrSyntax, 2},
		{"a{@:1}", api.ErrSyntax, 2}, {"a{A=1}", api.ErrSyntax, 3}, {"a{A:a}", api.ErrSyntax, 4}, {"a{A:/}", api.ErrSyntax, 4},
		{"a{A::}", api.ErrSyntax, 4}, {"a{A:-1}", api.ErrSyntax, 4}, {"a{A:$W}", api.ErrSyntax, 5}, {"a{A:$x}", api.ErrSyntax, 5},
		{"a{A:$$X}", api.ErrSyntax, 5}, {"a{A:ii}", api.ErrSyntax, 5}, {"a{A:1i}", api.ErrSyntax, 5}, {"a{A:1 }", api.ErrSyntax, 5},
		{"a{A:1,B:2}", api.ErrSyntax, 5}, {"a{A:1;;B:2}", api.ErrSyntax, 6}, {"a{A:1!B:2}", api.ErrSyntax, 6},
		{"a{!A:1}", api.ErrSyntax, 2}, {"a{{}}", api.ErrSyntax, 2}, {"a{};", api.ErrSyntax, 3}, {"a{},b{}", api.ErrSyntax, 3},
		{"a{} b{}", api.ErrSyntax, 3}, {"a{}!", api.ErrSyntax, 4}, {"\x00", api.ErrSyntax, 0}, {"a{\x00}", api.ErrSyntax, 2},
		{"a\t{}", api.ErrSyntax, 1}, {"ä{}", api.ErrSyntax, 0}, {"a{A:\xff}", api.ErrSyntax, 4}, {"a{A:1\x00", api.ErrSyntax, 5},
	})
}

func TestCheckTellsAnEarlyEnd(t *testing.T) {
	sheet := "@3a.b#c:f:n21!d!.e!:l>*,g{A:1;B:234!;C:i;X:$Y!}"
	for end := 1; end < len(sheet); end++ {
		tryChecks(t, []checkCase{{sheet[:end], api.ErrSyntax, end}})
	}
	tryChecks(t, []checkCase{{sheet, api.OK, 0}})
}

func TestCheckBounds(t *testing.T) {
	longest := strings.Repeat(".b", api.MaxText/2-1) + "{}"
	rules := strings.Repeat("a{}", api.MaxRules)
	if len(longest) != api.MaxText {
		t.Fatalf("the text has %d bytes", len(longest))
	}
	tryChecks(t, []checkCase{
		{longest, api.OK, 0}, {"a" + longest, api.ErrLong, 0}, {longest + "\x00", api.ErrLong, 0},
		{longest[:api.MaxText-1] + "{", api.ErrSyntax, api.MaxText - 1}, {longest[:api.MaxText-1], api.ErrSyntax, api.MaxText - 1},
		{strings.Repeat("a", api.MaxText), api.ErrSyntax, 1}, {strings.Repeat("a", api.MaxText+1), api.ErrLong, 0},
		{strings.Repeat(".a", api.MaxText/2), api.ErrSyntax, api.MaxText}, {strings.Repeat(".a", api.MaxText/2) + "{", api.ErrLong, 0},
		{"a b c d{}", api.OK, 0}, {"a>b+c~d,a b c d,a b c d{}", api.OK, 0}, {"a b c d e{}", api.ErrMany, 8},
		{"*.a .b:f>c!d+#e~:n21:l f{}", api.ErrMany, 16}, {"a,b c,d e f g h i j,a b c d e{}", api.ErrMany, 14},
		{rules, api.OK, 0}, {rules + "b{}", api.ErrMany, 60}, {rules + "@1b{}b{}", api.ErrMany, 60},
		{strings.Repeat("@1a,b{A:1}", api.MaxRules) + "c{}", api.ErrMany, 200},
		{rules + "a b c d e{}", api.ErrMany, 60}, {rules[3:] + "a b c d e{}b{}", api.ErrMany, 65},
		{rules[3:] + "a{}a b c d e{}", api.ErrMany, 60}, {"a b c d e{}" + rules, api.ErrMany, 8},
	})
}

func TestCheckNamesTheFirstError(t *testing.T) {
	rules := strings.Repeat("a{}", api.MaxRules+1)
	tryChecks(t, []checkCase{
		{strings.Repeat("?", api.MaxText+1), api.ErrLong, 0},
		{strings.Repeat("a{}", api.MaxText), api.ErrLong, 0},
		{"a b c d e", api.ErrSyntax, 9}, {"a b c d e?{}", api.ErrSyntax, 9}, {"a b c d {}", api.ErrSyntax, 8},
		{"a b c d e{}?", api.ErrSyntax, 11}, {rules + "?", api.ErrSyntax, 63}, {rules + "a", api.ErrSyntax, 64},
	})
}

func TestCheckBehindEveryStart(t *testing.T) {
	starts := []string{""}
	for depth := 0; depth < 4; depth++ {
		var longer []string
		for _, start := range starts {
			for b := 0; b < 256; b++ {
				tryByte(t, start, byte(b))
			}
			for _, b := range strings.Split("a.:n!*@>,{};A1$X f", "") {
				if canGoOn(start + b) {
					longer = append(longer, start+b)
				}
			}
		}
		starts = longer
	}
}

func tryByte(t *testing.T, start string, b byte) {
	t.Helper()
	sheet := start + string([]byte{b})
	want := checkCase{sheet, api.ErrSyntax, len(sheet)}
	if sheetExpression.MatchString(sheet) {
		want = checkCase{sheet, api.OK, 0}
	} else if !canGoOn(sheet) {
		want.place = len(start)
	}
	tryChecks(t, []checkCase{want})
}

func TestCheckAgainstTheOracle(t *testing.T) {
	random := rand.New(rand.NewSource(1))
	seen := [4]int{}
	for i := 0; i < 6000; i++ {
		sheet := randomSheet(random)
		if i%3 == 0 && len(sheet) > api.MaxText {
			sheet = sheet[:strings.LastIndexByte(sheet[:api.MaxText], '}')+1]
		}
		for spoils := i % 3; spoils > 0; spoils-- {
			sheet = spoil(random, sheet)
		}
		errno, place := expectedCheck(sheet)
		seen[errno]++
		tryChecks(t, []checkCase{{sheet, errno, place}})
	}
	for errno, n := range seen {
		if n < 100 {
			t.Errorf("the sheets of this test gave error %d only %d times", errno, n)
		}
	}
}
