package tree

import (
	"math/rand"
	"reflect"
	"testing"

	"style/api"
)

// These tests look inside, as no call of P5 to P7 tells types, classes and names.

func begin(t *testing.T, kinds string) *Tree {
	t.Helper()
	x, errno := New(kinds[:1])
	if errno != api.OK {
		t.Fatalf("P5: New(%q) = %d", kinds[:1], errno)
	}
	for at := 1; at < len(kinds); at++ {
		if number, errno := x.Insert(0, at-1, kinds[at:at+1]); number != at || errno != api.OK {
			t.Fatalf("P6: Insert = %d, %d, want %d", number, errno, at)
		}
	}
	return &x
}

// tryMarks compares an element's type, its classes in the alphabet's order and its name.
func tryMarks(t *testing.T, x *Tree, number int, kind, classes, name string) {
	t.Helper()
	place, there := x.find(number)
	if !there {
		t.Fatalf("there is no element %d", number)
	}
	e := x.elements[place]
	got := ""
	for i, on := range e.classes {
		if on {
			got += string([]byte{byte('a' + i)})
		}
	}
	gotName := ""
	if e.name != 0 {
		gotName = string([]byte{e.name})
	}
	if string([]byte{e.kind}) != kind || got != classes || gotName != name {
		t.Errorf("P5 to P7: element %d is %c, %q, %q, want %s, %q, %q", number, e.kind, got, gotName, kind, classes, name)
	}
}

func tryClass(t *testing.T, x *Tree, e int, class string, on bool, want api.Errno) {
	t.Helper()
	if _, got := x.Class(e, class, on); got != want {
		t.Errorf("P7: Class(%d, %q, %v) = %d, want %d", e, class, on, got, want)
	}
}

func tryName(t *testing.T, x *Tree, e int, name string, want api.Errno) {
	t.Helper()
	if _, _, got := x.Name(e, name); got != want {
		t.Errorf("P7: Name(%d, %q) = %d, want %d", e, name, got, want)
	}
}

func TestTypes(t *testing.T) {
	x := begin(t, "qaz")
	tryMarks(t, x, 0, "q", "", "")
	tryMarks(t, x, 1, "a", "", "")
	tryMarks(t, x, 2, "z", "", "")
}

func TestClasses(t *testing.T) {
	x := begin(t, "abc")
	tryClass(t, x, 1, "z", true, api.OK)
	tryClass(t, x, 1, "a", true, api.OK)
	tryClass(t, x, 1, "m", true, api.OK)
	tryClass(t, x, 0, "m", true, api.OK)
	tryMarks(t, x, 1, "b", "amz", "")
	tryClass(t, x, 1, "z", true, api.OK)
	tryMarks(t, x, 1, "b", "amz", "")
	tryClass(t, x, 1, "m", false, api.OK)
	tryClass(t, x, 1, "q", false, api.OK)
	tryMarks(t, x, 1, "b", "az", "")
	tryMarks(t, x, 0, "a", "m", "")
	tryMarks(t, x, 2, "c", "", "")
	for b := byte('a'); b <= 'z'; b++ {
		tryClass(t, x, 2, string([]byte{b}), true, api.OK)
	}
	tryMarks(t, x, 2, "c", "abcdefghijklmnopqrstuvwxyz", "")
}

func TestNames(t *testing.T) {
	x := begin(t, "abc")
	tryName(t, x, 1, "z", api.OK)
	tryName(t, x, 2, "z", api.OK)
	tryMarks(t, x, 1, "b", "", "z")
	tryMarks(t, x, 2, "c", "", "z")
	tryName(t, x, 1, "a", api.OK)
	tryName(t, x, 2, "", api.OK)
	tryMarks(t, x, 0, "a", "", "")
	tryMarks(t, x, 1, "b", "", "a")
	tryMarks(t, x, 2, "c", "", "")
	tryName(t, x, 2, "", api.OK)
	tryMarks(t, x, 2, "c", "", "")
}

func TestMarksStayWithTheirElement(t *testing.T) {
	x := begin(t, "abcd")
	for e, class := range []string{"p", "q", "r", "s"} {
		tryClass(t, x, e, class, true, api.OK)
		tryName(t, x, e, class, api.OK)
	}
	if errno := x.Move(3, 1, 0); errno != api.OK {
		t.Errorf("P6: Move = %d", errno)
	}
	if errno := x.Move(1, 0, 1); errno != api.OK {
		t.Errorf("P6: Move = %d", errno)
	}
	if errno := x.Remove(2); errno != api.OK {
		t.Errorf("P6: Remove = %d", errno)
	}
	number, _ := x.Insert(0, 0, "e")
	tryMarks(t, x, 0, "a", "p", "p")
	tryMarks(t, x, 1, "b", "q", "q")
	tryMarks(t, x, 3, "d", "s", "s")
	tryMarks(t, x, number, "e", "", "")
}

func copyOf(x *Tree) Tree {
	return Tree{elements: append([]element{}, x.elements...), made: x.made}
}

// TestErrorsChangeNothing asks for things in a full tree too, where Insert is refused last.
func TestErrorsChangeNothing(t *testing.T) {
	random := rand.New(rand.NewSource(1))
	words := []string{"", "a", "b", "z", "A", "ab", "\xff"}
	x := begin(t, "a")
	refused := 0
	for i := 0; i < 20000; i++ {
		e, parent, at, word := random.Intn(x.made+2)-1, random.Intn(x.made+2)-1, random.Intn(6)-1, words[random.Intn(len(words))]
		before := copyOf(x)
		var errno api.Errno
		switch way := random.Intn(9); {
		case way < 3:
			_, errno = x.Insert(parent, at, word)
		case way < 5:
			errno = x.Move(e, parent, at)
		case way < 7:
			_, errno = x.Class(e, word, at > 1)
		case way < 8:
			_, _, errno = x.Name(e, word)
		case i%20 == 0:
			errno = x.Remove(e)
		}
		if errno != api.OK {
			refused++
		}
		if errno != api.OK && !reflect.DeepEqual(before, *x) {
			t.Fatalf("P1: step %d: with the error %d the tree is changed", i, errno)
		}
	}
	if refused < 5000 {
		t.Errorf("only %d calls were refused", refused)
	}
}

func TestRemovedElementsAreNotKept(t *testing.T) {
	x := begin(t, "a")
	for i := 0; i < 1000; i++ {
		number, _ := x.Insert(0, 0, "b")
		x.Insert(number, 0, "c")
		x.Remove(number)
	}
	spare := x.elements[:cap(x.elements)]
	for _, e := range spare[1:] {
		if e != (element{}) {
			t.Errorf("element %d is kept", e.number)
		}
	}
	if len(x.elements) != 1 {
		t.Errorf("%d elements are kept", len(x.elements))
	}
}
