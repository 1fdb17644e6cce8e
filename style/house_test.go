package style_test

import (
	"testing"

	"style/api"
	"style/style"
)

// change is done to a document of which all elements are fresh; may are those that may become stale by P10.
type change struct {
	what string
	do   func(x *style.Doc) api.Errno
	may  []int
}

func insert(parent, at int, may ...int) change {
	return change{"Insert", func(x *style.Doc) api.Errno { _, errno := x.Insert(parent, at, "b"); return errno }, may}
}

func remove(e int, may ...int) change {
	return change{"Remove", func(x *style.Doc) api.Errno { return x.Remove(e) }, may}
}

func move(e, parent, at int, may ...int) change {
	return change{"Move", func(x *style.Doc) api.Errno { return x.Move(e, parent, at) }, may}
}

func class(e int, class string, on bool, may ...int) change {
	return change{"Class", func(x *style.Doc) api.Errno { return x.Class(e, class, on) }, may}
}

func name(e int, name string, may ...int) change {
	return change{"Name", func(x *style.Doc) api.Errno { return x.Name(e, name) }, may}
}

func isAmong(list []int, e int) bool {
	for _, each := range list {
		if each == e {
			return true
		}
	}
	return false
}

// tryKept compares what is kept of x, as it is and when all is fresh, with what y tells, to which the same
// was done and which was not asked before.
func tryKept(t *testing.T, x, y *style.Doc, made int) {
	t.Helper()
	for range 2 {
		stale := x.Stale()
		for e := 0; e < made; e++ {
			for i := range nine {
				want, errno := y.Query(e, nine[i:i+1])
				fresh := errno == api.OK && !isAmong(stale, e)
				if !fresh {
					want = 0
				}
				tryStored(t, x, e, nine[i:i+1], want, fresh, errno)
			}
		}
		freshen(t, x)
	}
}

func tryChange(t *testing.T, sheet, tree string, made int, c change) {
	t.Helper()
	x, y := grow(t, sheet, tree), grow(t, sheet, tree)
	freshen(t, x)
	done(t, c.do(x))
	done(t, c.do(y))
	for _, e := range x.Stale() {
		if !isAmong(c.may, e) {
			t.Errorf("P10: behind %s %d is stale, only %v may be", c.what, e, c.may)
		}
	}
	tryKept(t, x, y, made+1)
}

// 0 ( 1 ( 2 ( 3 ) 4 ( 5 ) ) 6 ( 7 ( 8 ( 9 ) ) 10 ) 11 ), and 12 if one is put in.
const (
	houses      = "a(b(b(b)b(b))b(b(b(b))b)b)"
	housesMade  = 12
	housesSheet = ".c{A:9}.c~*{B:8}.c *{C:7}!.d{D:6}#n+*{E:5}:e~*{F:4}:f{X:3}:l *{Y:2}:n20{Z:1}:e{A:21}b>b>b{D:i}!#m~*>*{E:22}"
)

var everyOne = []int{0, 1, 2, 3, 4, 5, 6, 7, 8, 9, 10, 11, 12}

func TestHousesOfClassAndName(t *testing.T) {
	may := [][]int{
		everyOne, everyOne, {1, 2, 3, 4, 5}, {2, 3}, {1, 2, 3, 4, 5}, {4, 5},
		everyOne, {6, 7, 8, 9, 10}, {7, 8, 9}, {8, 9}, {6, 7, 8, 9, 10}, everyOne,
	}
	for e, house := range may {
		for _, letter := range []string{"c", "d"} {
			tryChange(t, housesSheet, houses, housesMade, class(e, letter, true, house...))
		}
		for _, letter := range []string{"n", "m"} {
			tryChange(t, housesSheet, houses, housesMade, name(e, letter, house...))
		}
	}
}

func TestHousesOfInsert(t *testing.T) {
	may := [][]int{
		everyOne, everyOne, {1, 2, 3, 4, 5, 12}, {2, 3, 12}, {1, 2, 3, 4, 5, 12}, {4, 5, 12},
		everyOne, {6, 7, 8, 9, 10, 12}, {7, 8, 9, 12}, {8, 9, 12}, {6, 7, 8, 9, 10, 12}, everyOne,
	}
	children := []int{3, 2, 1, 0, 1, 0, 2, 1, 1, 0, 0, 0}
	for parent, house := range may {
		for at := 0; at <= children[parent]; at++ {
			tryChange(t, housesSheet, houses, housesMade, insert(parent, at, house...))
		}
	}
}

func TestHousesOfRemove(t *testing.T) {
	may := [][]int{
		nil, everyOne, everyOne, {1, 2, 4, 5}, everyOne, {1, 2, 3, 4},
		everyOne, everyOne, {6, 7, 10}, {7, 8}, everyOne, everyOne,
	}
	for e := 1; e < housesMade; e++ {
		tryChange(t, housesSheet, houses, housesMade, remove(e, may[e]...))
	}
}

func TestHousesOfMove(t *testing.T) {
	changes := []change{
		move(3, 9, 0, 1, 2, 3, 4, 5, 8, 9),
		move(9, 3, 0, 2, 3, 7, 8, 9),
		move(9, 8, 0, 7, 8, 9),
		move(9, 7, 0, 6, 7, 8, 9, 10),
		move(9, 7, 1, 6, 7, 8, 9, 10),
		move(8, 5, 0, 4, 5, 6, 7, 8, 9, 10),
		move(8, 7, 0, 6, 7, 8, 9, 10),
		move(5, 2, 0, 1, 2, 3, 4, 5),
		move(5, 2, 1, 1, 2, 3, 4, 5),
		move(5, 3, 0, 1, 2, 3, 4, 5),
		move(3, 5, 0, 1, 2, 3, 4, 5),
		move(3, 10, 0, 1, 2, 3, 4, 5, 6, 7, 8, 9, 10),
		move(3, 0, 0, everyOne...),
		move(7, 2, 0, everyOne...),
		move(1, 0, 2, everyOne...),
		move(11, 9, 0, everyOne...),
		move(6, 5, 0, everyOne...),
	}
	for _, c := range changes {
		tryChange(t, housesSheet, houses, housesMade, c)
	}
}

// Each way in which one element tells on another, with the smallest tree that shows it.
func TestWhatTellsOnWhat(t *testing.T) {
	all := []int{0, 1, 2, 3, 4, 5, 6, 7, 8}
	cases := []struct {
		sheet, tree string
		c           change
	}{
		{".c{D:9}", "a(bb)", class(1, "c", true, all...)},
		{".c{A:9}", "a(b(b(b)))", class(0, "c", true, all...)},
		{"!.c{D:9}", "a(bb)", class(1, "c", true, all...)},
		{".c>*{D:9}", "a(b(b)b)", class(1, "c", true, all...)},
		{".c *{D:9}", "a(b(b(b))b)", class(0, "c", true, all...)},
		{".c+*{D:9}", "a(bbb)", class(1, "c", true, all...)},
		{".c~*{D:9}", "a(bbb)", class(1, "c", true, all...)},
		{".c~* *{D:9}", "a(bbb(b(b)))", class(1, "c", true, all...)},
		{".c+*>*{D:9}", "a(bb(b(b))b)", class(1, "c", true, all...)},
		{".c+b{A:9}", "a(bb(b(b))b)", class(1, "c", true, all...)},
		{".c{D:9}", "a(b.c)", class(1, "c", false, all...)},
		{"a!.c~!.d *{D:9}", "b(a.c.db(b))", class(1, "c", false, all...)},
		{"#n{D:9}", "a(b#nb)", name(1, "", all...)},
		{"#n{D:9}", "a(b#nb)", name(1, "m", all...)},
		{"#n{D:9}", "a(b#mb)", name(1, "n", all...)},
		{"!#n{D:9}", "a(b#nb)", name(1, "m", all...)},
		{"#n~b b{D:9}", "a(bbb(b(b)))", name(1, "n", all...)},
		{"#n b{A:9}", "a(bbb(b(b)))", name(0, "n", all...)},
		{":f{D:9}", "a(bb)", insert(0, 0, all...)},
		{":f>*{D:9}", "a(b(b)b)", insert(0, 0, all...)},
		{":l{D:9}", "a(bb)", insert(0, 2, all...)},
		{"b:l{A:9}", "a(bb(b))", insert(0, 2, all...)},
		{":n20{D:9}", "a(bbb)", insert(0, 0, all...)},
		{":n02~*{D:9}", "a(bbb)", insert(0, 0, all...)},
		{"b+b{D:9}", "a(cb)", insert(0, 1, all...)},
		{"b~c{D:9}", "a(cc(c))", insert(0, 1, all...)},
		{":e{D:9}", "a(bb)", insert(1, 0, all...)},
		{":e+*{D:9}", "a(bbb)", insert(1, 0, all...)},
		{":e~* *{D:9}", "a(bb(b(b)))", insert(1, 0, all...)},
		{"!:e~* *{D:9}", "a(bbb(b(b)))", insert(1, 0, all...)},
		{":e{A:9}", "a", insert(0, 0, all...)},
		{":f{D:9}", "a(bbb)", remove(1, all...)},
		{":l{D:9}", "a(bbb)", remove(3, all...)},
		{"b:l *{D:9}", "a(bb(b(b))b)", remove(5, all...)},
		{":n22{D:9}", "a(bbbbb)", remove(2, all...)},
		{"c+b{D:9}", "a(cbb)", remove(2, all...)},
		{"c~b{D:9}", "a(cbb(b))", remove(1, all...)},
		{":e+*{D:9}", "a(b(b)b)", remove(2, all...)},
		{":e~* *{D:9}", "a(b(b)b(b(b)))", remove(2, all...)},
		{"!:e{A:9}", "a(b)", remove(1, all...)},
		{"b{A:9}c{A:8}", "a(b(d)c)", move(2, 3, 0, all...)},
		{"b{D:9}d{D:i}c{D:8}", "a(b(d)c)", move(2, 3, 0, all...)},
		{"b d{D:9}c d{D:8}", "a(b(e(d))c)", move(2, 4, 0, all...)},
		{":e~*{D:9}", "a(b(b)cdd)", move(2, 3, 0, all...)},
		{":f{D:9}:l{E:8}:n20{F:7}", "a(bbbb)", move(1, 0, 2, all...)},
		{":f{D:9}:l{E:8}:n20{F:7}", "a(bbbb)", move(4, 0, 0, all...)},
		{"b+c{D:9}b~c *{E:8}", "a(bc(c)c)", move(1, 0, 2, all...)},
		{":e{D:9}", "a(b(b)b)", move(2, 0, 0, all...)},
		{"d>*{D:9}", "d(b(b)b)", move(2, 0, 2, all...)},
	}
	for _, c := range cases {
		tryTold(t, c.sheet, c.tree, c.c)
	}
}

// tryTold looks for a value that is another behind the change, so that each case shows what it is there for.
func tryTold(t *testing.T, sheet, tree string, c change) {
	t.Helper()
	x, y := grow(t, sheet, tree), grow(t, sheet, tree)
	done(t, c.do(y))
	told := false
	for e := 0; e < 9; e++ {
		for i := range nine {
			before, errno := x.Query(e, nine[i:i+1])
			after, later := y.Query(e, nine[i:i+1])
			told = told || (errno == api.OK && later == api.OK && before != after)
		}
	}
	if !told {
		t.Errorf("of %s and %s, %s changes no value", sheet, tree, c.what)
	}
	tryChange(t, sheet, tree, 8, c)
}

func TestNothingBecomesStale(t *testing.T) {
	cases := []struct {
		sheet, tree string
		c           change
	}{
		{".c{D:9}", "a(b.c(b)b)", class(1, "c", true)},
		{".c{D:9}", "a(b.c(b)b)", class(2, "c", false)},
		{".c{D:9}", "a(b(b)b)", class(1, "c", false)},
		{".c{D:9}", "a.c(b(b)b)", class(0, "c", true)},
		{"!.c{D:9}", "a(b.c(b)b)", class(1, "c", true)},
		{".c{D:9}", "a(b(b)b)", class(1, "d", true)},
		{".c{D:9}", "a(b.d(b)b)", class(1, "d", false)},
		{".c{D:9}", "a(b(b)b)", class(0, "b", true)},
		{"#c{D:9}c{E:9}!c{F:8}", "a(b(b)b)", class(1, "c", true)},
		{"a:f{D:9}:l{D:8}:e{D:7}:n11{D:6}", "a(b(b)b)", class(0, "f", true)},
		{"a:f{D:9}:l{D:8}:e{D:7}:n11{D:6}", "a(b(b)b)", class(0, "n", true)},
		{"a{D:i;E:r!;F:u}", "a(b(b)b)", class(0, "i", true)},
		{"", "a(b(b)b)", class(0, "c", true)},
		{"#n{D:9}", "a(b#n(b)b)", name(1, "n")},
		{"!#n{D:9}", "a(b#n(b)b)", name(1, "n")},
		{"#n{D:9}", "a(b(b)b)", name(1, "")},
		{"#n{D:9}", "a(b(b)b)", name(1, "m")},
		{"#n{D:9}", "a(b#m(b)b)", name(1, "")},
		{"#n{D:9}", "a(b#m(b)b)", name(1, "o")},
		{"#n{D:9}", "a(b#m(b)b)", name(0, "m")},
		{".n{D:9}n{E:9}!n{F:8}:n11{D:6}", "a(b(b)b)", name(1, "n")},
		{"", "a(b#m(b)b)", name(1, "n")},
		{"", "a#n(b(b)b)", name(0, "")},
	}
	for _, c := range cases {
		tryChange(t, c.sheet, c.tree, 4, c.c)
	}
}

// With a sheet's letters the elements turn stale, with the next sheet's letters no more.
func TestLettersOfTheSheetAsItIs(t *testing.T) {
	x := grow(t, ".c,b>!.d,#n~*,!#m{D:9}", "a(b(b)b)")
	for _, letter := range []string{"c", "d"} {
		freshen(t, x)
		done(t, x.Class(2, letter, true))
		tryStored(t, x, 2, "D", 0, false, api.OK)
	}
	for _, letter := range []string{"n", "m", ""} {
		freshen(t, x)
		done(t, x.Name(1, letter))
		tryStored(t, x, 1, "D", 0, false, api.OK)
	}
	done(t, x.Sheet(".e,#o{D:9}"))
	freshen(t, x)
	done(t, x.Class(2, "c", false))
	done(t, x.Class(2, "d", false))
	done(t, x.Name(1, "n"))
	tryStale(t, x)
	done(t, x.Class(2, "e", true))
	tryStored(t, x, 2, "D", 0, false, api.OK)
	freshen(t, x)
	tryStored(t, x, 2, "D", 9, true, api.OK)
	done(t, x.Name(3, "o"))
	tryStored(t, x, 3, "D", 0, false, api.OK)
}

// What is stale stays so, whatever is undone or done elsewhere.
func TestChangesMakeNothingFresh(t *testing.T) {
	x := grow(t, ".c{D:9}", "a(b(b)b(b))")
	freshen(t, x)
	done(t, x.Class(2, "c", true))
	done(t, x.Class(2, "c", false))
	tryStored(t, x, 2, "D", 0, false, api.OK)
	done(t, x.Class(4, "c", true))
	done(t, x.Name(2, "n"))
	done(t, x.Show(2, true))
	tryStored(t, x, 2, "D", 0, false, api.OK)
	tryMove(t, x, 2, 3, 0, api.OK)
	tryStored(t, x, 2, "D", 0, false, api.OK)
	tryMove(t, x, 2, 1, 0, api.OK)
	tryStored(t, x, 2, "D", 0, false, api.OK)
	tryInsert(t, x, 2, 0, "b", 5, api.OK)
	tryRemove(t, x, 5, api.OK)
	tryStored(t, x, 2, "D", 0, false, api.OK)
	done(t, x.Sheet(".c{D:9}"))
	tryStored(t, x, 2, "D", 0, false, api.OK)
	tryQuery(t, x, 2, "D", 4, api.OK)
	tryStored(t, x, 2, "D", 4, true, api.OK)
}

func TestSheetLeavesNothingWrong(t *testing.T) {
	x := grow(t, "a{A:9}b{D:8}", "a(b(b)b)")
	freshen(t, x)
	for _, sheet := range []string{"b{D:7;X:1}", "", "b{D:7;X:1}", "b>b{E:6}a{X:5}*{F:$X}", "a{A:9}b{D:8}"} {
		done(t, x.Sheet(sheet))
		tryKept(t, x, grow(t, sheet, "a(b(b)b)"), 4)
	}
}
