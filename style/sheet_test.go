package style

import (
	"reflect"
	"strings"
	"testing"

	"style/api"
	"style/rules"
)

// trySheet looks inside, as no call of P5 to P7 tells what the document's sheet is.
func trySheet(t *testing.T, x *Doc, sheet string) {
	t.Helper()
	want, errno, _ := rules.Read(sheet)
	if errno != api.OK {
		t.Fatalf("%q is no sheet", sheet)
	}
	if !reflect.DeepEqual(x.sheet, want) {
		t.Errorf("P5, P7: the document's sheet is %v, want %v", x.sheet, want)
	}
}

func TestTheDocumentHasItsSheet(t *testing.T) {
	first, second := "a.b>c{A:1}", "@3#d!:f,e{B:$X!}"
	x, errno := New(first, "a")
	y, _ := New(first, "a")
	if errno != api.OK {
		t.Fatalf("P5: New answers %d", errno)
	}
	trySheet(t, x, first)
	refused := []string{"a", "b{A:1}a b c d e{}", strings.Repeat("a{}", api.MaxRules+1), strings.Repeat(".a", api.MaxText) + "{}"}
	for i, want := range []api.Errno{api.ErrSyntax, api.ErrMany, api.ErrMany, api.ErrLong} {
		if got := x.Sheet(refused[i]); got != want {
			t.Errorf("P7: Sheet(%.20q) = %d, want %d", refused[i], got, want)
		}
		trySheet(t, x, first)
	}
	if got := x.Sheet(second); got != api.OK {
		t.Errorf("P7: Sheet(%q) = %d", second, got)
	}
	trySheet(t, x, second)
	trySheet(t, y, first)
	x.Insert(0, 0, "b")
	x.Remove(1)
	trySheet(t, x, second)
	if got := x.Sheet(""); got != api.OK {
		t.Errorf("P7: Sheet of the empty text = %d", got)
	}
	trySheet(t, x, "")
}
