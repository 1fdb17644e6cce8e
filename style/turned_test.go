package style_test

import (
	"testing"

	"style/api"
	"style/style"
)

// These tests ask before and after something is done, so that what was told once is not told again when it is wrong.

func done(t *testing.T, errno api.Errno) {
	t.Helper()
	if errno != api.OK {
		t.Errorf("P6, P7: the error %d", errno)
	}
}

func TestValuesAfterInsert(t *testing.T) {
	x := grow(t, ":f{D:10}:l{E:20}:n02{F:30}:e{D:40}!:e+*{A:50}a>b~b{B:60}b b{C:70}", "a(bb)")
	tryNine(t, x, 0, 1, 2, 3, 10, 20, 6)
	tryNine(t, x, 1, 1, 2, 3, 40, 5, 6)
	tryNine(t, x, 2, 1, 60, 3, 40, 20, 30)
	tryInsert(t, x, 0, 0, "b", 3, api.OK)
	tryNine(t, x, 3, 1, 2, 3, 40, 5, 6)
	tryNine(t, x, 1, 1, 60, 3, 40, 5, 30)
	tryNine(t, x, 2, 1, 60, 3, 40, 20, 6)
	tryInsert(t, x, 1, 0, "b", 4, api.OK)
	tryNine(t, x, 1, 1, 60, 3, 4, 5, 30)
	tryNine(t, x, 2, 50, 60, 3, 40, 20, 6)
	tryNine(t, x, 4, 1, 60, 70, 40, 20, 6)
	tryInsert(t, x, 0, 3, "c", 5, api.OK)
	tryNine(t, x, 2, 50, 60, 3, 40, 5, 6)
	tryNine(t, x, 5, 1, 2, 3, 40, 20, 6)
}

func TestValuesAfterRemove(t *testing.T) {
	x := grow(t, "b:f{A:10}:l{E:20}:e{D:40}b:e+*{B:50}b~c{C:60}", "a(b(c)bc(c)c)")
	tryNine(t, x, 0, 1, 2, 3, 4, 20, 6)
	tryNine(t, x, 1, 10, 2, 3, 4, 5, 6)
	tryNine(t, x, 3, 1, 2, 3, 40, 5, 6)
	tryNine(t, x, 4, 1, 50, 60, 4, 5, 6)
	tryNine(t, x, 6, 1, 2, 60, 40, 20, 6)
	tryRemove(t, x, 2, api.OK)
	tryNine(t, x, 1, 10, 2, 3, 40, 5, 6)
	tryNine(t, x, 3, 1, 50, 3, 40, 5, 6)
	tryRemove(t, x, 1, api.OK)
	tryNine(t, x, 3, 10, 2, 3, 40, 5, 6)
	tryRemove(t, x, 6, api.OK)
	tryNine(t, x, 4, 1, 50, 60, 4, 20, 6)
	tryNine(t, x, 5, 1, 50, 60, 40, 20, 6)
	tryRemove(t, x, 3, api.OK)
	tryNine(t, x, 4, 1, 2, 3, 4, 20, 6)
	tryRemove(t, x, 4, api.OK)
	tryNine(t, x, 0, 1, 2, 3, 40, 20, 6)
	tryQuery(t, x, 5, "A", 0, api.ErrElement)
}

func TestValuesAfterMove(t *testing.T) {
	x := grow(t, "b{A:10;D:11}d{A:20;D:21}c{D:i}b>c{E:30}d+b{F:40}:e{B:50}b c e{C:60}", "a(b(c(e))d)")
	tryNine(t, x, 1, 10, 2, 3, 11, 5, 6)
	tryNine(t, x, 2, 10, 2, 3, 11, 30, 6)
	tryNine(t, x, 3, 10, 50, 60, 4, 5, 6)
	tryNine(t, x, 4, 20, 50, 3, 21, 5, 6)
	tryMove(t, x, 2, 4, 0, api.OK)
	tryNine(t, x, 1, 10, 50, 3, 11, 5, 6)
	tryNine(t, x, 2, 20, 2, 3, 21, 5, 6)
	tryNine(t, x, 3, 20, 50, 3, 4, 5, 6)
	tryNine(t, x, 4, 20, 2, 3, 21, 5, 6)
	tryMove(t, x, 1, 0, 1, api.OK)
	tryNine(t, x, 1, 10, 50, 3, 11, 5, 40)
	tryMove(t, x, 4, 1, 0, api.OK)
	tryNine(t, x, 1, 10, 2, 3, 11, 5, 6)
	tryNine(t, x, 3, 20, 50, 60, 4, 5, 6)
}

func TestValuesAfterClass(t *testing.T) {
	x := grow(t, ".x{D:10}.x>*{E:20}.x+*{F:30}.x~* *{A:40}!.x{B:50}", "a(bc(d)e(f))")
	tryNine(t, x, 1, 1, 50, 3, 4, 5, 6)
	tryNine(t, x, 3, 1, 50, 3, 4, 5, 6)
	done(t, x.Class(1, "x", true))
	tryNine(t, x, 0, 1, 50, 3, 4, 5, 6)
	tryNine(t, x, 1, 1, 50, 3, 10, 5, 6)
	tryNine(t, x, 2, 1, 50, 3, 4, 5, 30)
	tryNine(t, x, 3, 40, 50, 3, 4, 5, 6)
	tryNine(t, x, 4, 1, 50, 3, 4, 5, 6)
	tryNine(t, x, 5, 40, 50, 3, 4, 5, 6)
	done(t, x.Class(1, "x", true))
	done(t, x.Class(1, "y", true))
	tryNine(t, x, 5, 40, 50, 3, 4, 5, 6)
	done(t, x.Class(0, "x", true))
	tryNine(t, x, 0, 1, 2, 3, 10, 5, 6)
	tryNine(t, x, 1, 1, 2, 3, 10, 20, 6)
	done(t, x.Class(1, "x", false))
	done(t, x.Class(2, "x", false))
	tryNine(t, x, 1, 1, 50, 3, 4, 20, 6)
	tryNine(t, x, 3, 1, 50, 3, 4, 5, 6)
}

func TestValuesAfterName(t *testing.T) {
	x := grow(t, "#n{B:10}#n>*{E:20}#m+*{F:30}#n~* *{A:40}!#m{D:50}", "a(bc(d)e)")
	tryNine(t, x, 1, 1, 2, 3, 50, 5, 6)
	done(t, x.Name(1, "n"))
	tryNine(t, x, 1, 1, 10, 3, 50, 5, 6)
	tryNine(t, x, 3, 40, 2, 3, 50, 5, 6)
	done(t, x.Name(1, "m"))
	tryNine(t, x, 1, 1, 2, 3, 4, 5, 6)
	tryNine(t, x, 2, 1, 2, 3, 50, 5, 30)
	tryNine(t, x, 3, 1, 2, 3, 50, 5, 6)
	done(t, x.Name(0, "n"))
	tryNine(t, x, 0, 1, 10, 3, 50, 5, 6)
	tryNine(t, x, 1, 1, 10, 3, 4, 20, 6)
	done(t, x.Name(1, ""))
	done(t, x.Name(0, ""))
	tryNine(t, x, 0, 1, 2, 3, 50, 5, 6)
	tryNine(t, x, 1, 1, 2, 3, 50, 5, 6)
	tryNine(t, x, 2, 1, 2, 3, 50, 5, 6)
}

func TestValuesAfterSheet(t *testing.T) {
	x := grow(t, "a{A:10}b{D:20;X:7}", "a(b)")
	tryNine(t, x, 1, 10, 2, 3, 20, 5, 6, 7, 0, 0)
	done(t, x.Sheet("a{B:11;Y:8}b{E:$Y}"))
	tryNine(t, x, 0, 1, 11, 3, 4, 5, 6, 0, 8, 0)
	tryNine(t, x, 1, 1, 11, 3, 4, 8, 6, 0, 8, 0)
	for _, sheet := range []string{"b{A:1", "*{A:99}a", "*{A:99}a b c d e{}"} {
		if errno := x.Sheet(sheet); errno == api.OK {
			t.Errorf("P7: Sheet(%q) is taken", sheet)
		}
		tryNine(t, x, 1, 1, 11, 3, 4, 8, 6, 0, 8, 0)
	}
	done(t, x.Sheet(""))
	tryNine(t, x, 0, 1, 2, 3, 4, 5, 6, 0, 0, 0)
	tryNine(t, x, 1, 1, 2, 3, 4, 5, 6, 0, 0, 0)
}

// Whether elements are asked from above or from below, often or once, they tell the same.
func TestQueriesChangeNoValue(t *testing.T) {
	sheet, tree := "a{A:10;X:3}b{A:i;D:$X;X:4}b b{E:i;D:i}:l{F:9}", "a(b(b(b)c)c(b))"
	first, second := grow(t, sheet, tree), grow(t, sheet, tree)
	var want []int
	for e := 0; e < 7; e++ {
		for i := range nine {
			value, _ := first.Query(e, nine[i:i+1])
			want = append(want, value)
		}
	}
	for _, x := range []*style.Doc{second, first, second} {
		for e := 6; e >= 0; e-- {
			tryNine(t, x, e, want[9*e:9*e+9]...)
		}
	}
	tryChildren(t, second, 0, []int{1, 5}, api.OK)
	tryChildren(t, second, 1, []int{2, 4}, api.OK)
	tryInsert(t, second, 0, 2, "b", 7, api.OK)
}

func TestValuesOfDocumentsAreApart(t *testing.T) {
	x, y := grow(t, ".x{D:10}b:f{E:20}", "a(b)"), grow(t, ".x{D:10}b:f{E:20}", "a(b)")
	done(t, x.Class(1, "x", true))
	tryInsert(t, x, 0, 0, "b", 2, api.OK)
	tryNine(t, x, 1, 1, 2, 3, 10, 5)
	tryNine(t, y, 1, 1, 2, 3, 4, 20)
	done(t, x.Sheet(""))
	tryNine(t, y, 1, 1, 2, 3, 4, 20)
}

// Neither refused calls nor elements that came and went leave a trace in what is told.
func TestValuesHangOnTreeAndSheetAlone(t *testing.T) {
	sheet := "b:f{A:10}b:l{B:20}:e{D:30}.x~*{E:40}#n *{F:50}"
	x, y := grow(t, sheet, "a(b(c)b)"), grow(t, sheet, "a(b(c)b)")
	tryInsert(t, x, 0, 0, "b", 4, api.OK)
	tryInsert(t, x, 2, 0, "d", 5, api.OK)
	done(t, x.Class(4, "x", true))
	done(t, x.Name(0, "n"))
	tryMove(t, x, 2, 3, 0, api.OK)
	done(t, x.Sheet("*{A:99}"))
	tryNine(t, x, 2, 99)
	done(t, x.Sheet(sheet))
	tryMove(t, x, 2, 1, 0, api.OK)
	done(t, x.Name(0, ""))
	tryRemove(t, x, 4, api.OK)
	tryRemove(t, x, 5, api.OK)
	tryInsert(t, x, 0, 9, "b", 0, api.ErrPlace)
	tryMove(t, x, 1, 2, 0, api.ErrCycle)
	tryRemove(t, x, 0, api.ErrRoot)
	for e := 0; e < 4; e++ {
		for i := range nine {
			want, _ := y.Query(e, nine[i:i+1])
			tryQuery(t, x, e, nine[i:i+1], want, api.OK)
		}
	}
}
