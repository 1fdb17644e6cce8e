package style_test

import (
	"reflect"
	"strings"
	"testing"

	"style/api"
	"style/style"
)

// tryStale writes into what comes out and its spare room: by P2 that changes nothing.
func tryStale(t *testing.T, x *style.Doc, want ...int) {
	t.Helper()
	list := x.Stale()
	if !reflect.DeepEqual(list, want) {
		t.Errorf("P9: Stale() = %#v, want %#v", list, want)
	}
	for i := range list[:cap(list)] {
		list[:cap(list)][i] = -7
	}
}

func tryStored(t *testing.T, x *style.Doc, e int, property string, want int, fresh bool, errno api.Errno) {
	t.Helper()
	got, gotFresh, gotErrno := x.Stored(e, property)
	if got != want || gotFresh != fresh || gotErrno != errno {
		t.Errorf("P9: Stored(%d, %.20q) = %d, %v, %d, want %d, %v, %d", e, property, got, gotFresh, gotErrno, want, fresh, errno)
	}
}

// tryStoredNine compares all that is kept of a fresh element, in the order of nine.
func tryStoredNine(t *testing.T, x *style.Doc, e int, want ...int) {
	t.Helper()
	for i, value := range want {
		tryStored(t, x, e, nine[i:i+1], value, true, api.OK)
	}
}

func trySlice(t *testing.T, x *style.Doc, budget, want int) {
	t.Helper()
	if got := x.Slice(budget); got != want {
		t.Errorf("P11: Slice(%d) = %d, want %d", budget, got, want)
	}
}

// freshen makes all elements fresh.
func freshen(t *testing.T, x *style.Doc) {
	t.Helper()
	x.Slice(api.MaxElements)
	tryStale(t, x)
}

// kin has the elements 0 ( 1 ( 2 ( 3 ) 4 ) 5 ).
func kin(t *testing.T) *style.Doc {
	t.Helper()
	return grow(t, "a{A:7;X:1}b b{A:i;D:$X;X:2}.c{E:9}#n{F:8}", "a(b(b(b)b)b)")
}

func TestExampleOfPieces(t *testing.T) {
	x := begin(t, ".c{A:9}", "a")
	tryInsert(t, x, 0, 0, "b", 1, api.OK)
	tryStale(t, x, 0, 1)
	trySlice(t, x, 1, 1)
	if list := x.Stale(); len(list) != 1 {
		t.Errorf("P11: behind Slice(1) %v are stale", list)
	}
	tryQuery(t, x, 1, "A", 1, api.OK)
	tryStale(t, x)
	done(t, x.Class(1, "d", true))
	tryStale(t, x)
	done(t, x.Class(1, "c", true))
	list := x.Stale()
	if !reflect.DeepEqual(list, []int{1}) && !reflect.DeepEqual(list, []int{0, 1}) {
		t.Errorf("P9: Stale() = %v, want 1, and 0 or not", list)
	}
	trySlice(t, x, 5, len(list))
	tryStored(t, x, 1, "A", 9, true, api.OK)
}

func TestNewElementsAreStale(t *testing.T) {
	x := begin(t, "*{A:9}", "a")
	tryStale(t, x, 0)
	freshen(t, x)
	for number := 1; number < 5; number++ {
		tryInsert(t, x, number-1, 0, "b", number, api.OK)
		tryStored(t, x, number, "A", 0, false, api.OK)
		tryStored(t, x, number, "F", 0, false, api.OK)
		if list := x.Stale(); list[len(list)-1] != number {
			t.Errorf("P9: of the elements to %d Stale() = %v", number, list)
		}
		freshen(t, x)
		tryStoredNine(t, x, number, 9, 2, 3, 4, 5, 6, 0, 0, 0)
	}
}

// The numbers rise wherever the elements stand, and those that are not there any more are not told.
func TestStaleRises(t *testing.T) {
	x := begin(t, "", "a")
	for number := 1; number < api.MaxElements; number++ {
		tryInsert(t, x, 0, 0, "b", number, api.OK)
	}
	tryMove(t, x, 2, 20, 0, api.OK)
	tryMove(t, x, 20, 1, 0, api.OK)
	tryMove(t, x, 7, 0, 20, api.OK)
	tryStale(t, x, 0, 1, 2, 3, 4, 5, 6, 7, 8, 9, 10, 11, 12, 13, 14, 15, 16, 17, 18, 19, 20, 21, 22, 23)
	tryRemove(t, x, 20, api.OK)
	for _, e := range []int{0, 1, 3, 4, 5, 6, 8, 9, 10, 11, 12, 13, 14, 15, 16, 17, 18} {
		tryQuery(t, x, e, "A", 1, api.OK)
	}
	tryStale(t, x, 7, 19, 21, 22, 23)
	for _, e := range []int{22, 7, 23, 19} {
		tryQuery(t, x, e, "A", 1, api.OK)
	}
	tryStale(t, x, 21)
	tryRemove(t, x, 21, api.OK)
	freshen(t, x)
}

func TestQueryMakesFreshTheElementAndAllAbove(t *testing.T) {
	x := kin(t)
	tryStale(t, x, 0, 1, 2, 3, 4, 5)
	tryQuery(t, x, 5, "A", 7, api.OK)
	tryStale(t, x, 1, 2, 3, 4)
	tryQuery(t, x, 0, "F", 6, api.OK)
	tryStale(t, x, 1, 2, 3, 4)
	tryStored(t, x, 3, "X", 0, false, api.OK)
	tryQuery(t, x, 3, "X", 2, api.OK)
	tryStale(t, x, 4)
	tryStoredNine(t, x, 0, 7, 2, 3, 4, 5, 6, 1, 0, 0)
	tryStoredNine(t, x, 1, 7, 2, 3, 4, 5, 6, 1, 0, 0)
	tryStoredNine(t, x, 2, 7, 2, 3, 2, 5, 6, 2, 0, 0)
	tryStoredNine(t, x, 3, 7, 2, 3, 2, 5, 6, 2, 0, 0)
	tryQuery(t, x, 3, "D", 2, api.OK)
	tryQuery(t, x, 5, "D", 4, api.OK)
	tryStale(t, x, 4)
	tryQuery(t, x, 4, "D", 2, api.OK)
	tryStale(t, x)
	x = kin(t)
	tryQuery(t, x, 0, "A", 7, api.OK)
	tryStale(t, x, 1, 2, 3, 4, 5)
}

// refuse calls what is answered with an error, whatever is fresh.
func refuse(t *testing.T, x *style.Doc) {
	t.Helper()
	_, first := x.Query(9, "A")
	_, second := x.Query(-1, "A")
	_, third := x.Query(3, "")
	_, fourth := x.Query(3, "G")
	_, fifth := x.Insert(0, 9, "b")
	_, sixth := x.Insert(9, 0, "b")
	_, seventh := x.Insert(0, 0, "")
	errnos := []api.Errno{
		first, second, third, fourth, fifth, sixth, seventh,
		x.Remove(0), x.Remove(9), x.Move(1, 3, 0), x.Move(0, 1, 0), x.Move(2, 0, 9), x.Move(2, 9, 0), x.Move(9, 2, 0),
		x.Class(3, "", true), x.Class(9, "c", true), x.Class(3, "cc", true), x.Class(3, "C", true),
		x.Name(3, "nn"), x.Name(3, "N"), x.Name(9, "n"), x.Name(9, ""), x.Show(9, true), x.Show(-1, false),
		x.Sheet("a"), x.Sheet("*{A:99}a b c d e{}"), x.Sheet(strings.Repeat("a{}", api.MaxRules+1)), x.Sheet(strings.Repeat("a", api.MaxText+1)),
	}
	for i, errno := range errnos {
		if errno == api.OK {
			t.Errorf("call %d is not refused", i)
		}
	}
}

func TestRefusedCallsMakeNothingFreshOrStale(t *testing.T) {
	x := kin(t)
	refuse(t, x)
	tryStale(t, x, 0, 1, 2, 3, 4, 5)
	tryQuery(t, x, 2, "A", 7, api.OK)
	refuse(t, x)
	tryStale(t, x, 3, 4, 5)
	freshen(t, x)
	refuse(t, x)
	tryStale(t, x)
	tryStoredNine(t, x, 3, 7, 2, 3, 2, 5, 6, 2, 0, 0)
}

func TestAskingChangesNothing(t *testing.T) {
	x := kin(t)
	tryQuery(t, x, 2, "A", 7, api.OK)
	for i := 0; i < 3; i++ {
		tryStale(t, x, 3, 4, 5)
		for e := -1; e < 8; e++ {
			x.Children(e)
			for _, property := range []string{"A", "X", "D", "", "Q"} {
				x.Stored(e, property)
			}
		}
		tryStored(t, x, 3, "A", 0, false, api.OK)
		tryStored(t, x, 5, "A", 0, false, api.OK)
		tryStored(t, x, 2, "D", 2, true, api.OK)
		done(t, x.Show(3, i != 1))
		style.Check("a{}")
	}
	tryStale(t, x, 3, 4, 5)
	trySlice(t, x, 99, 3)
	for i := 0; i < 3; i++ {
		tryStale(t, x)
		trySlice(t, x, 99, 0)
		tryStored(t, x, 3, "X", 2, true, api.OK)
	}
}

func TestStoredRefuses(t *testing.T) {
	x := grow(t, "*{A:9}", "a(b(c)b)")
	tryRemove(t, x, 1, api.OK)
	for i := 0; i < 2; i++ {
		for _, e := range []int{-1, 1, 2, 4, 24, greatest, least} {
			for _, property := range []string{"A", "X", "", "a", "AB", "\xff", strings.Repeat("A", 1000000)} {
				tryStored(t, x, e, property, 0, false, api.ErrElement)
			}
		}
		for b := 0; b < 256; b++ {
			if property := string([]byte{byte(b)}); !strings.Contains(nine, property) {
				tryStored(t, x, 0, property, 0, false, api.ErrArg)
				tryStored(t, x, 3, property, 0, false, api.ErrArg)
			}
		}
		for _, property := range []string{"", "AA", "AB", "A ", " A", "A\x00", "$X", "XYZ", "Ä", "\u0410", strings.Repeat("A", 1000000)} {
			tryStored(t, x, 3, property, 0, false, api.ErrArg)
		}
		freshen(t, x)
	}
	tryStoredNine(t, x, 0, 9, 2, 3, 4, 5, 6, 0, 0, 0)
	tryStoredNine(t, x, 3, 9, 2, 3, 4, 5, 6, 0, 0, 0)
}

func TestLaterCallsChangeNoListOfStale(t *testing.T) {
	x := kin(t)
	list, again := x.Stale(), x.Stale()
	spare := list[:cap(list)]
	before := append([]int{}, spare...)
	again[0] = 99
	tryQuery(t, x, 2, "A", 7, api.OK)
	tryRemove(t, x, 5, api.OK)
	tryInsert(t, x, 0, 0, "b", 6, api.OK)
	done(t, x.Sheet(""))
	tryStale(t, x, 0, 1, 2, 3, 4, 6)
	trySlice(t, x, 3, 3)
	x.Stale()
	freshen(t, x)
	if !reflect.DeepEqual(spare, before) {
		t.Errorf("P2: a list of stale elements was %v, is %v", before, spare)
	}
}

func TestStaleOfDocumentsIsApart(t *testing.T) {
	x, y := kin(t), kin(t)
	tryQuery(t, x, 3, "A", 7, api.OK)
	tryStale(t, x, 4, 5)
	tryStale(t, y, 0, 1, 2, 3, 4, 5)
	freshen(t, y)
	done(t, y.Show(5, true))
	tryStale(t, x, 4, 5)
	done(t, x.Show(4, true))
	done(t, x.Sheet("*{A:99}"))
	tryStale(t, y)
	tryStoredNine(t, y, 5, 7, 2, 3, 4, 5, 6, 1, 0, 0)
	done(t, y.Sheet(""))
	trySlice(t, x, 3, 3)
	trySlice(t, y, 2, 2)
	tryStale(t, x, 2, 3, 5)
	tryStale(t, y, 1, 2, 3, 4)
	tryStored(t, x, 4, "A", 99, true, api.OK)
	tryStored(t, y, 5, "A", 1, true, api.OK)
}
