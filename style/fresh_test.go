package style

import (
	"reflect"
	"strings"
	"testing"

	"style/api"
)

// These tests look inside, as no call tells yet which elements are fresh.

func fresh(x *Doc) []int {
	var list []int
	for e := 0; e < 100; e++ {
		if _, there := x.kept.Find(e); there {
			list = append(list, e)
		}
	}
	return list
}

func tryFresh(t *testing.T, x *Doc, want ...int) {
	t.Helper()
	if got := fresh(x); !reflect.DeepEqual(got, want) {
		t.Errorf("P8: fresh are %v, want %v", got, want)
	}
}

// kin makes the root with the children 1 and 2; 1 has the children 3 and 4, and 3 has the child 5.
func kin(t *testing.T) *Doc {
	t.Helper()
	x, errno := New("a{A:7;X:1}b b{A:i;D:$X;X:2}.c{E:9}", "a")
	if errno != api.OK {
		t.Fatalf("P5: New answers %d", errno)
	}
	for number, parent := range []int{0, 0, 1, 1, 3} {
		if got, errno := x.Insert(parent, 0, "b"); got != number+1 || errno != api.OK {
			t.Fatalf("P6: Insert = %d, %d", got, errno)
		}
	}
	return x
}

func TestQueryMakesFreshTheElementAndAllAbove(t *testing.T) {
	x := kin(t)
	tryFresh(t, x)
	x.Query(2, "A")
	tryFresh(t, x, 0, 2)
	x.Query(0, "F")
	tryFresh(t, x, 0, 2)
	x.Query(5, "X")
	tryFresh(t, x, 0, 1, 2, 3, 5)
	x.Query(5, "D")
	x.Query(2, "D")
	tryFresh(t, x, 0, 1, 2, 3, 5)
	x.Query(4, "D")
	tryFresh(t, x, 0, 1, 2, 3, 4, 5)
	x = kin(t)
	x.Query(0, "A")
	tryFresh(t, x, 0)
}

func TestRefusedCallsMakeNothingFreshOrStale(t *testing.T) {
	x := kin(t)
	x.Query(3, "A")
	x.Query(9, "A")
	x.Query(-1, "A")
	x.Query(5, "")
	x.Query(5, "G")
	tryFresh(t, x, 0, 1, 3)
	x.Insert(0, 9, "b")
	x.Insert(9, 0, "b")
	x.Insert(0, 0, "")
	x.Remove(0)
	x.Remove(9)
	x.Move(1, 3, 0)
	x.Move(0, 1, 0)
	x.Class(3, "", true)
	x.Class(9, "c", true)
	x.Name(3, "ab")
	x.Name(9, "")
	x.Sheet("a")
	x.Sheet(strings.Repeat("a{}", api.MaxRules+1))
	x.Children(1)
	Check("a")
	tryFresh(t, x, 0, 1, 3)
}

// What is kept of a fresh element is what a document tells that was never asked before.
func TestWhatIsKeptOfFreshOnesIsRight(t *testing.T) {
	changes := []func(x *Doc){
		func(x *Doc) {},
		func(x *Doc) { x.Insert(1, 0, "a") },
		func(x *Doc) { x.Remove(3) },
		func(x *Doc) { x.Move(3, 2, 0) },
		func(x *Doc) { x.Class(3, "c", true) },
		func(x *Doc) { x.Class(0, "c", true) },
		func(x *Doc) { x.Name(1, "n") },
		func(x *Doc) { x.Sheet("b>b{D:8}#n{A:3}:f{F:1}") },
	}
	for i, change := range changes {
		x := kin(t)
		for e := 0; e < 8; e++ {
			x.Query(e, "A")
		}
		change(x)
		x.Query(4, "A")
		for e := 0; e < 8; e++ {
			style, there := x.kept.Find(e)
			if !there {
				continue
			}
			y := kin(t)
			change(y)
			for place, property := range strings.Split("ABCDEFXYZ", "") {
				if want, errno := y.Query(e, property); style[place] != want || errno != api.OK {
					t.Errorf("P8: change %d: of %d the %s is kept as %d, want %d, %d", i, e, property, style[place], want, errno)
				}
			}
		}
	}
}

func TestNewElementsAreNotFresh(t *testing.T) {
	x := kin(t)
	for e := 0; e < 6; e++ {
		x.Query(e, "A")
	}
	number, _ := x.Insert(5, 0, "b")
	if _, there := x.kept.Find(number); there {
		t.Errorf("P9: the new element %d is fresh", number)
	}
	x.Remove(number)
	x.Query(5, "A")
	if _, there := x.kept.Find(number); there {
		t.Errorf("a style of the removed element %d is kept", number)
	}
}
