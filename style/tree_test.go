package style_test

import (
	"math/rand"
	"reflect"
	"strings"
	"testing"

	"style/api"
	"style/style"
)

const (
	greatest = 1<<63 - 1
	least    = -1 << 63
)

// noLetters are texts of all lengths and bytes, none of which is one letter; the empty one is the first.
var noLetters = []string{"", "A", "Z", "`", "{", "0", "*", " ", ".", "\x00", "\x80", "\xe1", "\xff", "aa", "az", "a ", " a", "a\x00", "ä", "\uff41", strings.Repeat("a", 1000000)}

func begin(t *testing.T, sheet, root string) *style.Doc {
	t.Helper()
	x, errno := style.New(sheet, root)
	if x == nil || errno != api.OK {
		t.Fatalf("P5: New(%.80q, %q) = %v, %d", sheet, root, x != nil, errno)
	}
	return x
}

func tryInsert(t *testing.T, x *style.Doc, parent, at int, kind string, want int, errno api.Errno) {
	t.Helper()
	if number, got := x.Insert(parent, at, kind); number != want || got != errno {
		t.Errorf("P6: Insert(%d, %d, %.20q) = %d, %d, want %d, %d", parent, at, kind, number, got, want, errno)
	}
}

func tryRemove(t *testing.T, x *style.Doc, e int, errno api.Errno) {
	t.Helper()
	if got := x.Remove(e); got != errno {
		t.Errorf("P6: Remove(%d) = %d, want %d", e, got, errno)
	}
}

func tryMove(t *testing.T, x *style.Doc, e, parent, at int, errno api.Errno) {
	t.Helper()
	if got := x.Move(e, parent, at); got != errno {
		t.Errorf("P6: Move(%d, %d, %d) = %d, want %d", e, parent, at, got, errno)
	}
}

// tryChildren writes into what comes out and its spare room: by P2 that changes nothing.
func tryChildren(t *testing.T, x *style.Doc, e int, want []int, errno api.Errno) {
	t.Helper()
	list, got := x.Children(e)
	if !reflect.DeepEqual(list, want) || got != errno {
		t.Errorf("P7: Children(%d) = %#v, %d, want %#v, %d", e, list, got, want, errno)
	}
	for i := range list[:cap(list)] {
		list[:cap(list)][i] = -7
	}
}

// family makes the root a with the children 1, 2, 3; 1 has the children 4, 5, and 4 has the child 6.
func family(t *testing.T) *style.Doc {
	t.Helper()
	x := begin(t, "", "a")
	for number, place := range [][2]int{{0, 0}, {0, 1}, {0, 2}, {1, 0}, {1, 1}, {4, 0}} {
		tryInsert(t, x, place[0], place[1], "b", number+1, api.OK)
	}
	return x
}

// tryFamily tells whether all is as family made it.
func tryFamily(t *testing.T, x *style.Doc) {
	t.Helper()
	for e, want := range [][]int{{1, 2, 3}, {4, 5}, nil, nil, {6}, nil, nil} {
		tryChildren(t, x, e, want, api.OK)
	}
	tryChildren(t, x, 7, nil, api.ErrElement)
}

func TestNew(t *testing.T) {
	for b := byte('a'); b <= 'z'; b++ {
		tryChildren(t, begin(t, "", string([]byte{b})), 0, nil, api.OK)
	}
	begin(t, "a.b>*!:f,#c{A:12;D:$X!}", "q")
	begin(t, strings.Repeat("a{}", api.MaxRules), "q")
}

func TestNewRefuses(t *testing.T) {
	type refusal struct {
		sheet, root string
		errno       api.Errno
	}
	cases := []refusal{
		{strings.Repeat("?", api.MaxText+1), "a", api.ErrLong}, {strings.Repeat("?", api.MaxText+1), "", api.ErrLong},
		{"a", "a", api.ErrSyntax}, {"a", "A", api.ErrSyntax}, {"\xff", "", api.ErrSyntax},
		{"a b c d e{}", "a", api.ErrMany}, {"a b c d e{}", "aa", api.ErrMany},
		{strings.Repeat("a{}", api.MaxRules+1), "a", api.ErrMany},
	}
	for _, root := range noLetters {
		cases = append(cases, refusal{"", root, api.ErrArg}, refusal{"a{A:1}", root, api.ErrArg})
	}
	for _, c := range cases {
		if x, errno := style.New(c.sheet, c.root); x != nil || errno != c.errno {
			t.Errorf("P5: New(%.80q, %.20q) = %v, %d, want %d", c.sheet, c.root, x != nil, errno, c.errno)
		}
	}
}

func TestTextsOfEveryByte(t *testing.T) {
	for b := 0; b < 256; b++ {
		text := string([]byte{byte(b)})
		want := api.ErrArg
		if b >= 'a' && b <= 'z' {
			want = api.OK
		}
		x, errno := style.New("", text)
		if errno != want || (x != nil) != (want == api.OK) {
			t.Errorf("P5: New(, %q) = %v, %d, want %d", text, x != nil, errno, want)
		}
		x = begin(t, "", "a")
		_, inserted := x.Insert(0, 0, text)
		for _, got := range []api.Errno{inserted, x.Class(0, text, true), x.Class(0, text, false), x.Name(0, text)} {
			if got != want {
				t.Errorf("P6, P7: of the text %q Insert, Class or Name answers %d, want %d", text, got, want)
			}
		}
	}
}

func TestInsertPutsAmongTheChildren(t *testing.T) {
	x := begin(t, "", "a")
	tryInsert(t, x, 0, 0, "b", 1, api.OK)
	tryInsert(t, x, 0, 1, "z", 2, api.OK)
	tryInsert(t, x, 0, 0, "a", 3, api.OK)
	tryInsert(t, x, 0, 1, "b", 4, api.OK)
	tryInsert(t, x, 4, 0, "b", 5, api.OK)
	tryInsert(t, x, 0, 4, "b", 6, api.OK)
	tryChildren(t, x, 0, []int{3, 4, 1, 2, 6}, api.OK)
	tryChildren(t, x, 4, []int{5}, api.OK)
	tryChildren(t, x, 5, nil, api.OK)
}

func TestInsertRefuses(t *testing.T) {
	x := family(t)
	for _, parent := range []int{-1, 7, 24, greatest, least} {
		tryInsert(t, x, parent, 0, "b", 0, api.ErrElement)
		tryInsert(t, x, parent, -1, "", 0, api.ErrElement)
	}
	for _, at := range []int{-1, 4, 5, greatest, least} {
		tryInsert(t, x, 0, at, "b", 0, api.ErrPlace)
		tryInsert(t, x, 0, at, "", 0, api.ErrPlace)
	}
	tryInsert(t, x, 1, 3, "b", 0, api.ErrPlace)
	tryInsert(t, x, 6, 1, "b", 0, api.ErrPlace)
	for _, kind := range noLetters {
		tryInsert(t, x, 0, 0, kind, 0, api.ErrArg)
	}
	tryFamily(t, x)
	tryInsert(t, x, 0, 3, "b", 7, api.OK)
}

func TestInsertOfTooMany(t *testing.T) {
	x := begin(t, "", "a")
	for number := 1; number < api.MaxElements; number++ {
		tryInsert(t, x, number/2, 0, "b", number, api.OK)
	}
	tryInsert(t, x, 0, 0, "b", 0, api.ErrFull)
	tryInsert(t, x, 23, 0, "b", 0, api.ErrFull)
	tryInsert(t, x, 24, 0, "b", 0, api.ErrElement)
	tryInsert(t, x, 0, 2, "b", 0, api.ErrPlace)
	tryInsert(t, x, 0, 0, "bb", 0, api.ErrArg)
	tryMove(t, x, 23, 0, 0, api.OK)
	tryInsert(t, x, 0, 0, "b", 0, api.ErrFull)
	tryRemove(t, x, 23, api.OK)
	tryInsert(t, x, 0, 0, "b", 24, api.OK)
	tryInsert(t, x, 0, 0, "b", 0, api.ErrFull)
	tryRemove(t, x, 1, api.OK)
	for number := 25; number < 25+22; number++ {
		tryInsert(t, x, 0, 0, "b", number, api.OK)
	}
	tryInsert(t, x, 0, 0, "b", 0, api.ErrFull)
}

func TestNumbersAreNotGivenAgain(t *testing.T) {
	x := begin(t, "", "a")
	for number := 1; number < 3000; number++ {
		tryInsert(t, x, 0, 0, "b", number, api.OK)
		tryChildren(t, x, 0, []int{number}, api.OK)
		tryRemove(t, x, number, api.OK)
		tryRemove(t, x, number, api.ErrElement)
		tryChildren(t, x, 0, nil, api.OK)
	}
}

func TestRemoveTakesAllBelow(t *testing.T) {
	x := family(t)
	tryRemove(t, x, 1, api.OK)
	tryChildren(t, x, 0, []int{2, 3}, api.OK)
	for _, gone := range []int{1, 4, 5, 6} {
		tryChildren(t, x, gone, nil, api.ErrElement)
		tryInsert(t, x, gone, 0, "b", 0, api.ErrElement)
		tryRemove(t, x, gone, api.ErrElement)
		tryMove(t, x, gone, 0, 0, api.ErrElement)
		tryMove(t, x, 2, gone, 0, api.ErrElement)
		if got := x.Class(gone, "a", true); got != api.ErrElement {
			t.Errorf("P7: Class(%d, a, true) = %d of a removed element", gone, got)
		}
		if got := x.Name(gone, "a"); got != api.ErrElement {
			t.Errorf("P7: Name(%d, a) = %d of a removed element", gone, got)
		}
	}
	tryInsert(t, x, 2, 0, "b", 7, api.OK)
}

func TestRemoveRefuses(t *testing.T) {
	x := family(t)
	tryRemove(t, x, 0, api.ErrRoot)
	for _, e := range []int{-1, 7, 24, greatest, least} {
		tryRemove(t, x, e, api.ErrElement)
	}
	tryFamily(t, x)
}

func TestMoveWithinOneParent(t *testing.T) {
	for from := 0; from < 3; from++ {
		for to := 0; to < 3; to++ {
			x := family(t)
			e := from + 1
			var want []int
			for other := 1; other <= 3; other++ {
				if len(want) == to {
					want = append(want, e)
				}
				if other != e {
					want = append(want, other)
				}
			}
			if len(want) == to {
				want = append(want, e)
			}
			tryMove(t, x, e, 0, to, api.OK)
			tryChildren(t, x, 0, want, api.OK)
			tryMove(t, x, e, 0, from, api.OK)
			tryFamily(t, x)
		}
	}
}

func TestMoveTakesAllBelow(t *testing.T) {
	x := family(t)
	tryMove(t, x, 1, 3, 0, api.OK)
	tryChildren(t, x, 0, []int{2, 3}, api.OK)
	tryChildren(t, x, 3, []int{1}, api.OK)
	tryChildren(t, x, 1, []int{4, 5}, api.OK)
	tryChildren(t, x, 4, []int{6}, api.OK)
	tryMove(t, x, 2, 1, 2, api.OK)
	tryChildren(t, x, 1, []int{4, 5, 2}, api.OK)
	tryMove(t, x, 6, 1, 1, api.OK)
	tryChildren(t, x, 1, []int{4, 6, 5, 2}, api.OK)
	tryMove(t, x, 3, 1, 0, api.ErrCycle)
	tryRemove(t, x, 3, api.OK)
	tryChildren(t, x, 0, nil, api.OK)
	tryChildren(t, x, 2, nil, api.ErrElement)
}

func TestMoveRefuses(t *testing.T) {
	x := family(t)
	for _, e := range []int{-1, 7, 24, greatest, least} {
		tryMove(t, x, e, 0, 0, api.ErrElement)
		tryMove(t, x, 1, e, 0, api.ErrElement)
		tryMove(t, x, 0, e, -1, api.ErrElement)
		tryMove(t, x, e, e, -1, api.ErrElement)
	}
	for _, parent := range []int{0, 1, 6} {
		tryMove(t, x, 0, parent, 0, api.ErrRoot)
		tryMove(t, x, 0, parent, -1, api.ErrRoot)
		tryMove(t, x, 0, parent, 9, api.ErrRoot)
	}
	for _, parent := range []int{1, 4, 5, 6} {
		tryMove(t, x, 1, parent, 0, api.ErrCycle)
		tryMove(t, x, 1, parent, -1, api.ErrCycle)
		tryMove(t, x, 1, parent, 9, api.ErrCycle)
	}
	for _, at := range []int{-1, 3, 4, greatest, least} {
		tryMove(t, x, 1, 0, at, api.ErrPlace)
	}
	tryMove(t, x, 4, 0, 4, api.ErrPlace)
	tryMove(t, x, 2, 3, 1, api.ErrPlace)
	tryMove(t, x, 5, 1, 2, api.ErrPlace)
	tryFamily(t, x)
	tryMove(t, x, 4, 0, 3, api.OK)
	tryChildren(t, x, 0, []int{1, 2, 3, 4}, api.OK)
}

func TestExampleOfMove(t *testing.T) {
	x := begin(t, "", "a")
	for number := 1; number <= 3; number++ {
		tryInsert(t, x, 0, number-1, "b", number, api.OK)
	}
	tryMove(t, x, 1, 0, 1, api.OK)
	tryChildren(t, x, 0, []int{2, 1, 3}, api.OK)
	tryMove(t, x, 0, 1, 0, api.ErrRoot)
	tryMove(t, x, 1, 1, 0, api.ErrCycle)
	tryRemove(t, x, 0, api.ErrRoot)
	tryInsert(t, x, 0, 4, "b", 0, api.ErrPlace)
	tryChildren(t, x, 0, []int{2, 1, 3}, api.OK)
}

func TestClassAndNameRefuse(t *testing.T) {
	x := family(t)
	for i, text := range noLetters {
		for _, on := range []bool{true, false} {
			if got := x.Class(0, text, on); got != api.ErrArg {
				t.Errorf("P7: Class(0, %.20q, %v) = %d, want ErrArg", text, on, got)
			}
			if got := x.Class(7, text, on); got != api.ErrElement {
				t.Errorf("P7: Class(7, %.20q, %v) = %d, want ErrElement", text, on, got)
			}
		}
		if got := x.Name(0, text); (got != api.ErrArg) != (i == 0) {
			t.Errorf("P7: Name(0, %.20q) = %d", text, got)
		}
		if got := x.Name(7, text); got != api.ErrElement {
			t.Errorf("P7: Name(7, %.20q) = %d, want ErrElement", text, got)
		}
	}
	tryFamily(t, x)
}

func TestSheetAnswersAsCheck(t *testing.T) {
	random := rand.New(rand.NewSource(5))
	x := family(t)
	sheets := []string{"", "a{}", "a", "\xff", "a b c d e{}", strings.Repeat("a{}", 21), strings.Repeat("a", 401), strings.Repeat("\x00", 1000000)}
	for i := 0; i < 500; i++ {
		sheets = append(sheets, spoil(random, randomSheet(random)))
	}
	for _, sheet := range sheets {
		want, _ := style.Check(sheet)
		if got := x.Sheet(sheet); got != want {
			t.Errorf("P7: Sheet(%.80q) = %d, want %d", sheet, got, want)
		}
	}
	tryFamily(t, x)
}

func TestLaterCallsChangeNoList(t *testing.T) {
	x := family(t)
	list, _ := x.Children(0)
	again, _ := x.Children(0)
	spare := list[:cap(list)]
	before := append([]int{}, spare...)
	again[0] = 99
	tryInsert(t, x, 0, 3, "b", 7, api.OK)
	tryMove(t, x, 1, 0, 3, api.OK)
	tryRemove(t, x, 2, api.OK)
	tryChildren(t, x, 0, []int{3, 7, 1}, api.OK)
	if !reflect.DeepEqual(spare, before) {
		t.Errorf("P2: a list of children was %v, is %v", before, spare)
	}
}

func TestDocumentsAreApart(t *testing.T) {
	x, y := family(t), family(t)
	tryRemove(t, x, 1, api.OK)
	tryInsert(t, x, 0, 0, "b", 7, api.OK)
	tryFamily(t, y)
	tryInsert(t, y, 0, 0, "b", 7, api.OK)
}

// number is most often that of an element that was made, and else any at all.
func number(random *rand.Rand, made int) int {
	switch random.Intn(20) {
	case 0:
		return random.Int() - random.Int()
	case 1:
		return made + random.Intn(3) - 1
	case 2:
		return random.Intn(3) - 2
	case 3:
		return 0
	}
	return max(0, made-30) + random.Intn(min(made, 30))
}

// place is most often one among children.
func place(random *rand.Rand) int {
	if random.Intn(20) == 0 {
		return random.Int() - random.Int()
	}
	return random.Intn(7) - 1
}

func text(random *rand.Rand) string {
	if random.Intn(10) == 0 {
		return pick(random, noLetters[:len(noLetters)-1]...)
	}
	return pick(random, "a", "b", "m", "z")
}

// step does one thing to the document and the model, and answers what both told.
func step(random *rand.Rand, x *style.Doc, m *model) (api.Errno, [3]int, [3]int) {
	e, parent, at, word := number(random, m.made), number(random, m.made), place(random), text(random)
	switch way := random.Intn(60); {
	case way < 30:
		got, errno := x.Insert(parent, at, word)
		want, wanted := m.insert(parent, at, word)
		return wanted, [3]int{0, got, int(errno)}, [3]int{0, want, int(wanted)}
	case way < 31:
		errno, wanted := x.Remove(e), m.remove(e)
		return wanted, [3]int{1, e, int(errno)}, [3]int{1, e, int(wanted)}
	case way < 52:
		errno, wanted := x.Move(e, parent, at), m.move(e, parent, at)
		return wanted, [3]int{2, e, int(errno)}, [3]int{2, e, int(wanted)}
	case way < 56:
		errno, wanted := x.Class(e, word, at > 1), m.class(e, word, at > 1)
		return wanted, [3]int{3, e, int(errno)}, [3]int{3, e, int(wanted)}
	}
	errno, wanted := x.Name(e, word), m.setName(e, word)
	return wanted, [3]int{4, e, int(errno)}, [3]int{4, e, int(wanted)}
}

func TestTreeAgainstTheModel(t *testing.T) {
	random := rand.New(rand.NewSource(6))
	seen := [api.ErrFull + 1]int{}
	for run := 0; run < 100; run++ {
		x, m := begin(t, "", "a"), newModel("a")
		for i := 0; i < 300; i++ {
			errno, got, want := step(random, x, m)
			seen[errno]++
			if got != want {
				t.Fatalf("P6, P7: run %d, step %d: call, number and error are %v, want %v", run, i, got, want)
			}
			for e := -2; e < m.made+2; e++ {
				want, wanted := m.children(e)
				tryChildren(t, x, e, want, wanted)
			}
			if t.Failed() {
				t.Fatalf("run %d, step %d: the tree is not the model's", run, i)
			}
		}
	}
	for _, errno := range []api.Errno{api.OK, api.ErrArg, api.ErrElement, api.ErrRoot, api.ErrCycle, api.ErrPlace, api.ErrFull} {
		if seen[errno] < 100 {
			t.Errorf("the calls of this test gave error %d only %d times", errno, seen[errno])
		}
	}
}
