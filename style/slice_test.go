package style_test

import (
	"testing"

	"style/api"
	"style/style"
)

func TestSliceCounts(t *testing.T) {
	budgets := []struct{ budget, want int }{
		{least, 0}, {-1, 0}, {0, 0}, {1, 1}, {2, 2}, {5, 5}, {6, 6}, {7, 6}, {100, 6}, {greatest, 6},
	}
	for _, c := range budgets {
		x := kin(t)
		trySlice(t, x, c.budget, c.want)
		if list := x.Stale(); len(list) != 6-c.want {
			t.Errorf("P11: behind Slice(%d) %v are stale", c.budget, list)
		}
		rest := 6 - c.want
		trySlice(t, x, greatest, rest)
		tryStale(t, x)
		trySlice(t, x, c.budget, 0)
		tryStale(t, x)
	}
}

// Slices count those that Query has made fresh no more.
func TestSliceLeavesFreshOnesOut(t *testing.T) {
	x := kin(t)
	tryQuery(t, x, 2, "A", 7, api.OK)
	trySlice(t, x, 2, 2)
	trySlice(t, x, 2, 1)
	trySlice(t, x, 2, 0)
	tryStoredNine(t, x, 3, 7, 2, 3, 2, 5, 6, 2, 0, 0)
	tryStoredNine(t, x, 5, 7, 2, 3, 4, 5, 6, 1, 0, 0)
}

// chain has each element above those of lesser numbers, but for the root.
func chain(t *testing.T, sheet string, length int) *style.Doc {
	t.Helper()
	x := begin(t, sheet, "a")
	for number := 1; number < length; number++ {
		tryInsert(t, x, 0, 0, "b", number, api.OK)
		if number > 1 {
			tryMove(t, x, number-1, number, 0, api.OK)
		}
	}
	return x
}

// However the elements stand, each slice of one makes one fresh, and slices come to an end.
func TestSlicesOfOneEnd(t *testing.T) {
	sheet := "*{A:i;D:i}.c{A:9;D:8}"
	for _, shown := range []int{-1, 0, 1, 12, 23} {
		x := chain(t, sheet, api.MaxElements)
		done(t, x.Class(12, "c", true))
		x.Show(shown, true)
		for left := api.MaxElements; left > 0; left-- {
			if list := x.Stale(); len(list) != left {
				t.Errorf("P11: %v are stale, want %d", list, left)
			}
			trySlice(t, x, 1, 1)
		}
		tryStale(t, x)
		trySlice(t, x, 1, 0)
		tryStoredNine(t, x, 23, 1, 2, 3, 4)
		tryStoredNine(t, x, 13, 1, 2, 3, 4)
		tryStoredNine(t, x, 12, 9, 2, 3, 8)
		tryStoredNine(t, x, 1, 9, 2, 3, 8)
	}
}

// tryWanted makes slices of all sizes: those that are wanted go ahead of all others.
func tryWanted(t *testing.T, grown func() *style.Doc, elements int, wanted ...int) {
	t.Helper()
	for size := 0; size <= elements; size++ {
		x := grown()
		trySlice(t, x, size, size)
		stale := x.Stale()
		fresh := 0
		for _, e := range wanted {
			if !isAmong(stale, e) {
				fresh++
			}
		}
		if fresh != min(size, len(wanted)) || len(stale) != elements-size {
			t.Errorf("P11: behind Slice(%d) %v are stale, wanted are %v", size, stale, wanted)
		}
		trySlice(t, x, elements, elements-size)
		tryStale(t, x)
	}
}

// The elements are 0 ( 1 ( 2 ( 3 ) 4 ) 5 ( 6 ( 7 ) 8 ) ).
func TestWantedOnesGoFirst(t *testing.T) {
	type shows struct {
		do     func(x *style.Doc)
		count  int
		wanted []int
	}
	cases := []shows{
		{func(x *style.Doc) {}, 9, nil},
		{func(x *style.Doc) { x.Show(0, true) }, 9, []int{0}},
		{func(x *style.Doc) { x.Show(5, true) }, 9, []int{0, 5}},
		{func(x *style.Doc) { x.Show(6, true) }, 9, []int{0, 5, 6}},
		{func(x *style.Doc) { x.Show(7, true) }, 9, []int{0, 5, 6, 7}},
		{func(x *style.Doc) { x.Show(8, true) }, 9, []int{0, 5, 8}},
		{func(x *style.Doc) { x.Show(4, true); x.Show(7, true) }, 9, []int{0, 1, 4, 5, 6, 7}},
		{func(x *style.Doc) { x.Show(3, true); x.Show(3, true) }, 9, []int{0, 1, 2, 3}},
		{func(x *style.Doc) { x.Show(3, true); x.Show(8, true); x.Show(3, false) }, 9, []int{0, 5, 8}},
		{func(x *style.Doc) { x.Show(3, true); x.Show(3, true); x.Show(8, true); x.Show(3, false) }, 9, []int{0, 5, 8}},
		{func(x *style.Doc) { x.Show(3, false); x.Show(8, true) }, 9, []int{0, 5, 8}},
		{func(x *style.Doc) { x.Show(8, true); x.Show(5, false); x.Show(0, false) }, 9, []int{0, 5, 8}},
		{func(x *style.Doc) { x.Show(3, true); x.Show(8, true); x.Remove(3) }, 8, []int{0, 5, 8}},
		{func(x *style.Doc) { x.Show(3, true); x.Show(8, true); x.Remove(2) }, 7, []int{0, 5, 8}},
		{func(x *style.Doc) { x.Show(3, true); x.Show(8, true); x.Remove(2); x.Insert(1, 0, "b") }, 8, []int{0, 5, 8}},
		{func(x *style.Doc) { x.Show(3, true); x.Move(3, 8, 0) }, 9, []int{0, 3, 5, 8}},
		{func(x *style.Doc) { x.Show(3, true); x.Move(2, 7, 0) }, 9, []int{0, 2, 3, 5, 6, 7}},
		{func(x *style.Doc) { x.Show(3, true); x.Move(3, 0, 2) }, 9, []int{0, 3}},
		{func(x *style.Doc) { x.Show(7, true); x.Move(1, 7, 0) }, 9, []int{0, 5, 6, 7}},
		{func(x *style.Doc) { x.Show(2, true); x.Move(2, 8, 0); x.Move(8, 0, 0); x.Move(5, 2, 0) }, 9, []int{0, 2, 8}},
		{func(x *style.Doc) { x.Show(8, true); x.Class(8, "c", true); x.Name(8, "n") }, 9, []int{0, 5, 8}},
		{func(x *style.Doc) { x.Show(8, true); x.Sheet("#n{B:5}") }, 9, []int{0, 5, 8}},
		{func(x *style.Doc) { x.Show(8, true); x.Show(99, true); x.Show(-1, true) }, 9, []int{0, 5, 8}},
		{func(x *style.Doc) { x.Show(8, true); x.Query(7, "A") }, 5, []int{8}},
		{func(x *style.Doc) { x.Show(3, true); x.Show(4, true); x.Query(2, "A") }, 6, []int{3, 4}},
		{func(x *style.Doc) { x.Show(3, true); x.Show(8, true); x.Query(3, "A") }, 5, []int{5, 8}},
		{func(x *style.Doc) { x.Show(3, true); x.Slice(4) }, 5, nil},
		{func(x *style.Doc) { x.Show(3, true); x.Slice(4); x.Show(7, true) }, 5, []int{5, 6, 7}},
	}
	for i, c := range cases {
		grown := func() *style.Doc {
			x := grow(t, ".c{A:9}#n{D:8}", "a(b(b(b)b)b(b(b)b))")
			c.do(x)
			return x
		}
		tryWanted(t, grown, c.count, c.wanted...)
		if t.Failed() {
			t.Fatalf("case %d", i)
		}
	}
}

// What turns stale again is wanted as before.
func TestWantedOnesGoFirstAgain(t *testing.T) {
	x := grow(t, "", "a(b(b)b(b)b)")
	done(t, x.Show(4, true))
	for _, sheet := range []string{"", "b{A:9}", "b{A:8}", ""} {
		done(t, x.Sheet(sheet))
		freshen(t, x)
		done(t, x.Sheet("*{A:i}"))
		tryStale(t, x, 0, 1, 2, 3, 4, 5)
		trySlice(t, x, 3, 3)
		tryStale(t, x, 1, 2, 5)
	}
	done(t, x.Show(4, false))
	done(t, x.Show(2, true))
	trySlice(t, x, 2, 2)
	tryStale(t, x, 5)
}

func TestShowRefuses(t *testing.T) {
	x := grow(t, "", "a(b(b)b)")
	tryRemove(t, x, 1, api.OK)
	for _, e := range []int{-1, 1, 2, 4, 24, greatest, least} {
		for _, on := range []bool{true, false} {
			if errno := x.Show(e, on); errno != api.ErrElement {
				t.Errorf("P12: Show(%d, %v) = %d", e, on, errno)
			}
		}
	}
	for _, on := range []bool{true, true, false, false, true} {
		done(t, x.Show(0, on))
		done(t, x.Show(3, on))
	}
	tryInsert(t, x, 0, 0, "b", 4, api.OK)
	trySlice(t, x, 2, 2)
	tryStale(t, x, 4)
}

// Shows, slices and questions change no value, and neither does what is asked in the midst of changes.
func TestPiecesChangeNoValue(t *testing.T) {
	sheet, tree := "a{A:10;X:3}b{A:i;D:$X;X:4}b b{E:i;D:i}:l{F:9}.c~*{B:7}#n *{C:8}:e+*{Y:1}", "a(b(b(b)c)c(b))"
	x, y := grow(t, sheet, tree), grow(t, sheet, tree)
	changes := []change{
		class(1, "c", true), name(0, "n"), insert(4, 0), move(2, 5, 1), class(2, "c", true), remove(3),
		move(5, 1, 0), name(0, ""), insert(0, 1), class(1, "c", false), remove(4), move(2, 0, 0), insert(2, 0),
	}
	for i, c := range changes {
		done(t, c.do(x))
		done(t, c.do(y))
		x.Slice(i % 4)
		x.Show(i%7, i%3 > 0)
		x.Query(i%5, "A")
		x.Slice(i % 3)
		x.Stale()
		x.Stored(i%6, "X")
	}
	for e := 0; e < 12; e++ {
		for i := range nine {
			want, errno := y.Query(e, nine[i:i+1])
			tryQuery(t, x, e, nine[i:i+1], want, errno)
		}
		list, errno := y.Children(e)
		tryChildren(t, x, e, list, errno)
	}
}
