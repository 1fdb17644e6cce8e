package style_test

import (
	"strconv"
	"strings"
	"testing"

	"style/api"
)

// tryMatched compares the numbers of the elements that a selector matches.
func tryMatched(t *testing.T, selector, tree string, want ...int) {
	t.Helper()
	x := grow(t, selector+"{D:100}", tree)
	matched := map[int]bool{}
	for _, e := range want {
		matched[e] = true
	}
	for e := 0; ; e++ {
		value, errno := x.Query(e, "D")
		if errno == api.ErrElement {
			return
		}
		if errno != api.OK || (value == 100) != matched[e] || (value == 4) == matched[e] {
			t.Errorf("P8: %s in %s: Query(%d, D) = %d, %d, want a match: %v", selector, tree, e, value, errno, matched[e])
		}
	}
}

func TestPartsMatch(t *testing.T) {
	tree := "a.x(b.x.y#n(c#x)b#n(a.n)c)"
	tryMatched(t, "*", tree, 0, 1, 2, 3, 4, 5)
	tryMatched(t, "a", tree, 0, 4)
	tryMatched(t, "b", tree, 1, 3)
	tryMatched(t, "z", tree)
	tryMatched(t, ".x", tree, 0, 1)
	tryMatched(t, ".y", tree, 1)
	tryMatched(t, ".n", tree, 4)
	tryMatched(t, ".a", tree)
	tryMatched(t, "#n", tree, 1, 3)
	tryMatched(t, "#x", tree, 2)
	tryMatched(t, "#b", tree)
	tryMatched(t, ":f", tree, 0, 1, 2, 4)
	tryMatched(t, ":l", tree, 0, 2, 4, 5)
	tryMatched(t, ":e", tree, 2, 4, 5)
	tryMatched(t, ":n02", tree, 3)
	tryMatched(t, ":n21", tree, 0, 1, 2, 4, 5)
}

func TestPartsBehindAnExclamationMark(t *testing.T) {
	tree := "a.x(b.x.y#n(c#x)b#n(a.n)c)"
	tryMatched(t, "!a", tree, 1, 2, 3, 5)
	tryMatched(t, "!z", tree, 0, 1, 2, 3, 4, 5)
	tryMatched(t, "!.x", tree, 2, 3, 4, 5)
	tryMatched(t, "!.y", tree, 0, 2, 3, 4, 5)
	tryMatched(t, "!#n", tree, 0, 2, 4, 5)
	tryMatched(t, "!#x", tree, 0, 1, 3, 4, 5)
	tryMatched(t, "!:f", tree, 3, 5)
	tryMatched(t, "!:l", tree, 1, 3)
	tryMatched(t, "!:e", tree, 0, 1, 3)
	tryMatched(t, "!:n02", tree, 0, 1, 2, 4, 5)
	tryMatched(t, "!:n21", tree, 3)
}

func TestCompoundsMatchIfAllPartsDo(t *testing.T) {
	tree := "a.x(b.x.y#n(c#x)b#n(a.n)c)"
	tryMatched(t, "a.x", tree, 0)
	tryMatched(t, "*.x", tree, 0, 1)
	tryMatched(t, ".x.y", tree, 1)
	tryMatched(t, ".x.x", tree, 0, 1)
	tryMatched(t, ".y#n", tree, 1)
	tryMatched(t, "#n#x", tree)
	tryMatched(t, "b#n!.x", tree, 3)
	tryMatched(t, "b!b", tree)
	tryMatched(t, "!a!b", tree, 2, 5)
	tryMatched(t, ":f:l", tree, 0, 2, 4)
	tryMatched(t, ":f!:l", tree, 1)
	tryMatched(t, ":e:l!:f", tree, 5)
	tryMatched(t, ":n10:n21!:f", tree, 5)
	tryMatched(t, "c:e", tree, 2, 5)
}

func TestSigns(t *testing.T) {
	tree := "a(b(c(b)c)b(a)c)" // 0 a, 1 b, 2 c, 3 b, 4 c, 5 b, 6 a, 7 c
	tryMatched(t, "a b", tree, 1, 3, 5)
	tryMatched(t, "a>b", tree, 1, 5)
	tryMatched(t, "b b", tree, 3)
	tryMatched(t, "b>b", tree)
	tryMatched(t, "b>c", tree, 2, 4)
	tryMatched(t, "b+c", tree, 7)
	tryMatched(t, "b~c", tree, 7)
	tryMatched(t, "c+c", tree, 4)
	tryMatched(t, "b+b", tree, 5)
	tryMatched(t, "c+b", tree)
	tryMatched(t, "c~b", tree)
	tryMatched(t, "b:f~c", tree, 7)
	tryMatched(t, "b:f+c", tree)
	tryMatched(t, "* *", tree, 1, 2, 3, 4, 5, 6, 7)
	tryMatched(t, "*>*", tree, 1, 2, 3, 4, 5, 6, 7)
	tryMatched(t, "*+*", tree, 4, 5, 7)
	tryMatched(t, "*~*", tree, 4, 5, 7)
	tryMatched(t, "* * * *", tree, 3)
	tryMatched(t, "*>*>*>*", tree, 3)
	tryMatched(t, "*~*~*", tree, 7)
	tryMatched(t, "*~*~*~*", tree)
	tryMatched(t, "a a", "a(a(a))", 1, 2)
	tryMatched(t, "a+a,a~a,a>a", "a")
}

// An element is neither above itself nor ahead of itself, and other parents' children are ahead of none.
func TestSignsReachNoFurther(t *testing.T) {
	tree := "a(b(c)d(e)b)" // 0 a, 1 b, 2 c, 3 d, 4 e, 5 b
	tryMatched(t, "b b", tree)
	tryMatched(t, "d~d", tree)
	tryMatched(t, "c~e", tree)
	tryMatched(t, "c+e", tree)
	tryMatched(t, "b~e", tree)
	tryMatched(t, "b e", tree)
	tryMatched(t, "d~b", tree, 5)
	tryMatched(t, "b~b", tree, 5)
	tryMatched(t, "b+b", tree)
	tryMatched(t, "e~b", tree)
	tryMatched(t, "a>c", tree)
	tryMatched(t, "c b", tree)
	tryMatched(t, "b a", tree)
}

func TestSignsTogether(t *testing.T) {
	tree := "a(b.x(c)b(c(d)c(d))c(b(d)))" // 0 a, 1 b.x, 2 c, 3 b, 4 c, 5 d, 6 c, 7 d, 8 c, 9 b, 10 d
	tryMatched(t, ".x+b c", tree, 4, 6)
	tryMatched(t, ".x~c d", tree, 10)
	tryMatched(t, ".x~*>b>d", tree, 10)
	tryMatched(t, "a>b>c+c", tree, 6)
	tryMatched(t, "b>c+c>d", tree, 7)
	tryMatched(t, "b+b>c~c", tree, 6)
	tryMatched(t, "c+c d,b+c d", tree, 7, 10)
	tryMatched(t, "a b d", tree, 5, 7, 10)
	tryMatched(t, "a>b d", tree, 5, 7)
	tryMatched(t, "a c>d", tree, 5, 7)
}

// In each of these trees the nearest element that fits a compound is not the one by which the whole selector matches.
func TestNotTheNearestThatFits(t *testing.T) {
	tryMatched(t, "a>b c", "a(b(b(c)))", 3)
	tryMatched(t, "a>b c", "a(b(d(b(d(c)))))", 5)
	tryMatched(t, "a>b c", "a(d(b(b(c))))")
	tryMatched(t, "a+b~c", "r(abdbc)", 5)
	tryMatched(t, "a+b~c", "r(dbdbc)")
	tryMatched(t, "a~b c", "r(ab(b(c)))", 4)
	tryMatched(t, "a+b c", "r(ab(d(b(c))))", 5)
	tryMatched(t, "a+b c", "r(adb(b(c)))")
	tryMatched(t, "a b>c d", "a(b(c(d(c(d)))))", 3, 5)
	tryMatched(t, "a>b c d", "a(b(c(b(c(d)))))", 5)
	tryMatched(t, "a>b>c d", "a(b(c(b(c(d)))))", 5)
	tryMatched(t, "a+b+c~d", "r(abcabdcbcd)", 6, 10)
	tryMatched(t, "a+b+c~d", "r(abdbcd)")
	tryMatched(t, "a+b~b+c", "r(abbbc)", 5)
	tryMatched(t, "a+b~b+c", "r(abc)")
	tryMatched(t, "a.x a b", "a.x(a(a(b)))", 3)
	tryMatched(t, "a.x a a b", "a.x(a(b))")
	tryMatched(t, "#n .x b", "a#n(a.x(a.x(b)))", 3)
	tryMatched(t, "#n>.x b", "a#n(a.x(a.x(b)))", 3)
	tryMatched(t, "#n>.x>b", "a#n(a.x(a.x(b)))")
}

func TestTheRootCountsAsAnOnlyChild(t *testing.T) {
	for _, tree := range []string{"a", "a(bb)"} {
		for _, selector := range []string{":f", ":l", ":f:l", ":n01", ":n11", ":n10", ":n91", ":n21", "!:n00", "!:n02", "!:n12", "!:n20"} {
			tryQuery(t, grow(t, selector+"{D:9}", tree), 0, "D", 9, api.OK)
		}
		for _, selector := range []string{"!:f", "!:l", ":n00", ":n02", ":n12", ":n20", ":n29", "* a", "*>a", "*+a", "*~a"} {
			tryQuery(t, grow(t, selector+"{D:9}", tree), 0, "D", 4, api.OK)
		}
	}
	tryMatched(t, "a:e", "a", 0)
	tryMatched(t, "a!:e", "a")
	tryMatched(t, "a:e", "a(b)")
	tryMatched(t, "a!:e", "a(b)", 0)
}

func TestPlacesOfAllDigits(t *testing.T) {
	tree := "r(" + strings.Repeat("a", api.MaxElements-1) + ")"
	for a := 0; a <= 9; a++ {
		for b := 0; b <= 9; b++ {
			var want, rest []int
			for place := 1; place < api.MaxElements; place++ {
				matches := false
				for k := 0; k < 30; k++ {
					matches = matches || a*k+b == place
				}
				if matches {
					want = append(want, place)
				} else {
					rest = append(rest, place)
				}
			}
			digits := strconv.Itoa(a) + strconv.Itoa(b)
			tryMatched(t, "a:n"+digits, tree, want...)
			tryMatched(t, "a!:n"+digits, tree, rest...)
		}
	}
}
