package style

import (
	"testing"

	"style/api"
)

// These tests look inside, as no call tells what is kept of elements that are stale or not there any more.

func TestNoMoreIsKeptThanNeeded(t *testing.T) {
	x, errno := New("b>b{A:1}.c{B:1}", "a")
	if errno != api.OK {
		t.Fatalf("P5: New answers %d", errno)
	}
	for i := 0; i < 100; i++ {
		first, _ := x.Insert(0, 0, "b")
		second, _ := x.Insert(first, 0, "b")
		x.Slice(api.MaxElements)
		for _, e := range []int{0, first, second} {
			if _, there := x.kept.Find(e); !there {
				t.Fatalf("P11: of the fresh element %d nothing is kept", e)
			}
		}
		x.Class(second, "c", true)
		if _, there := x.kept.Find(second); there {
			t.Errorf("a style of the stale element %d is kept", second)
		}
		x.Query(second, "A")
		x.Remove(first)
		for _, e := range []int{first, second} {
			if _, there := x.kept.Find(e); there {
				t.Errorf("a style of the removed element %d is kept", e)
			}
		}
	}
}
