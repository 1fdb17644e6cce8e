package style_test

import (
	"strings"
	"testing"

	"style/api"
)

// Each value stands on a root, and on a child b of a root that has 11 to 19; c below b has no rule.
func TestEachKindOfValue(t *testing.T) {
	const all = "a{A:11;B:12;C:13;D:14;E:15;F:16;X:17;Y:18;Z:19}"
	initial := []int{1, 2, 3, 4, 5, 6, 0, 0, 0}
	for i, property := range strings.Split(nine, "") {
		comes := 11 + i
		unset := comes
		if strings.Contains("DEF", property) {
			unset = initial[i]
		}
		for _, c := range []struct {
			value       string
			root, below int
		}{
			{"0", 0, 0}, {"7", 7, 7}, {"07", 7, 7}, {"000", 0, 0}, {"42", 42, 42}, {"999", 999, 999}, {"100", 100, 100},
			{"i", initial[i], comes}, {"r", initial[i], initial[i]}, {"u", initial[i], unset},
		} {
			for _, mark := range []string{"", "!"} {
				set := "{" + property + ":" + c.value + mark + "}"
				tryQuery(t, grow(t, "a"+set, "a"), 0, property, c.root, api.OK)
				x := grow(t, all+"b"+set, "a(b(c))")
				tryQuery(t, x, 0, property, comes, api.OK)
				tryQuery(t, x, 1, property, c.below, api.OK)
				if unset == comes {
					tryQuery(t, x, 2, property, c.below, api.OK)
				} else {
					tryQuery(t, x, 2, property, initial[i], api.OK)
				}
			}
		}
		tryQuery(t, grow(t, "", "a(b)"), 0, property, initial[i], api.OK)
		tryQuery(t, grow(t, "", "a(b)"), 1, property, initial[i], api.OK)
		tryQuery(t, grow(t, all, "a(b(c))"), 2, property, unset, api.OK)
	}
}

func TestWhatComesGoesAllTheWayDown(t *testing.T) {
	x := grow(t, "a{A:9;D:9;X:9}*{D:i}", "a(b(c(d(e))))")
	tryValues(t, x, "A", 9, 9, 9, 9, 9)
	tryValues(t, x, "X", 9, 9, 9, 9, 9)
	tryValues(t, x, "D", 9, 9, 9, 9, 9)
	x = grow(t, "a{A:9;D:9}c{A:r;D:i}b{D:i}e{A:i;D:i}", "a(b(c(d(e))))")
	tryValues(t, x, "A", 9, 9, 1, 1, 1)
	tryValues(t, x, "D", 9, 9, 9, 4, 4)
}

func TestChainsOfVariables(t *testing.T) {
	tryNine(t, grow(t, "a{A:$X;X:$Y;Y:$Z;Z:9}", "a"), 0, 9, 2, 3, 4, 5, 6, 9, 9, 9)
	tryNine(t, grow(t, "a{Z:9;Y:$Z;X:$Y;F:$X}", "a"), 0, 1, 2, 3, 4, 5, 9, 9, 9, 9)
	tryNine(t, grow(t, "a{Z:$Y;Y:$X;X:5;D:$Z;B:$Y;E:$X}", "a"), 0, 1, 5, 3, 5, 5, 6, 5, 5, 5)
	tryNine(t, grow(t, "a{A:$X;D:$Y}", "a"), 0, 0, 2, 3, 0, 5, 6, 0, 0, 0)
	tryNine(t, grow(t, "a{A:$X;X:r;D:$Y;Y:u;E:$Z;Z:i}", "a"), 0, 0, 2, 3, 0, 0, 6, 0, 0, 0)
	x := grow(t, "a{X:1;Y:2;Z:3}b{A:$X;B:$Y;C:$Z;D:$X;E:$Y;F:$Z;X:$Y;Y:i;Z:r}", "a(b(c))")
	tryNine(t, x, 1, 2, 2, 0, 2, 2, 0, 2, 2, 0)
	tryNine(t, x, 2, 2, 2, 0, 4, 5, 6, 2, 2, 0)
	x = grow(t, "a{X:1;A:$X;D:$X}b{X:2}c{X:3;A:$X}", "a(b(c))")
	tryValues(t, x, "A", 1, 1, 3)
	tryValues(t, x, "D", 1, 4, 4)
	tryValues(t, x, "X", 1, 2, 3)
	x = grow(t, "a{X:$Y!;Y:5}a{X:7}*{D:$X}", "a(b)")
	tryValues(t, x, "D", 5, 5)
}

func TestRingsOfVariables(t *testing.T) {
	tryNine(t, grow(t, "a{X:$X;A:$X}", "a"), 0, 0, 2, 3, 4, 5, 6, 0, 0, 0)
	x := grow(t, "a{X:1;Y:2;Z:3}b{X:$X;Y:$Y;Z:$Z;A:$X;D:$Z}", "a(b)")
	tryNine(t, x, 1, 1, 2, 3, 3, 5, 6, 1, 2, 3)
	x = grow(t, "a{X:1;Y:2;Z:3}b{X:$Y;Y:$X;Z:$Y;A:$X;D:$Y;E:$Z}", "a(b)")
	tryNine(t, x, 1, 1, 2, 3, 2, 2, 6, 1, 2, 2)
	x = grow(t, "a{X:1;Y:2;Z:3}b{X:$Y;Y:$Z;Z:$X;A:$X;B:$Y;C:$Z}", "a(b)")
	tryNine(t, x, 1, 1, 2, 3, 4, 5, 6, 1, 2, 3)
	x = grow(t, "a{X:1;Y:2;Z:3}b{X:$Z;Z:$Y;Y:$X;D:$X;E:$Y;F:$Z}", "a(b)")
	tryNine(t, x, 1, 1, 2, 3, 1, 2, 3, 1, 2, 3)
	x = grow(t, "a{X:1;Y:2;Z:3}b{X:$Y;Y:$Z;Z:$Z;D:$X;E:$Y;F:$Z}", "a(b)")
	tryNine(t, x, 1, 1, 2, 3, 3, 3, 3, 3, 3, 3)
	x = grow(t, "a{X:1;Y:2;Z:3}b{Z:$X;X:$Y;Y:$X;F:$Z}", "a(b)")
	tryNine(t, x, 1, 1, 2, 3, 4, 5, 1, 1, 2, 1)
	// A ring that a later rule breaks is none.
	x = grow(t, "a{X:1;Y:2}b{X:$Y;Y:$X}b{Y:7}", "a(b)")
	tryNine(t, x, 1, 1, 2, 3, 4, 5, 6, 7, 7, 0)
}

// TestVariablesOfAllKinds goes through all ways in which three variables can have winners.
func TestVariablesOfAllKinds(t *testing.T) {
	kinds := []string{"", "5", "i", "r", "u", "$X", "$Y", "$Z"}
	for i := 0; i < 8*8*8; i++ {
		sheet := "a{X:1;Y:2;Z:3}b{A:$X;D:$Y;E:$Z"
		for j, variable := range []string{"X", "Y", "Z"} {
			if kind := kinds[i>>(3*j)&7]; kind != "" {
				sheet += ";" + variable + ":" + kind
			}
		}
		sheet += "}"
		m := newModel("a")
		m.insert(0, 0, "b")
		m.insert(1, 0, "b")
		tryLooks(t, grow(t, sheet, "a(b(b))"), m, sheet)
		if t.Failed() {
			t.Fatalf("the sheet is %s", sheet)
		}
	}
}
