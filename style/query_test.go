package style_test

import (
	"math/rand"
	"strconv"
	"strings"
	"testing"

	"style/api"
	"style/style"
)

// grow makes a document of a tree such as `a(b.x.y#n(c)b)`: a root a with two children b, the first of them
// with two classes, a name and a child c. The numbers rise from left to right.
func grow(t *testing.T, sheet, tree string) *style.Doc {
	t.Helper()
	x := begin(t, sheet, tree[:1])
	children := map[int]int{}
	var up []int
	last := 0
	for i := 1; i < len(tree); i++ {
		errno := api.OK
		switch b := tree[i]; b {
		case '(':
			up = append(up, last)
		case ')':
			up = up[:len(up)-1]
		case '.':
			i++
			errno = x.Class(last, tree[i:i+1], true)
		case '#':
			i++
			errno = x.Name(last, tree[i:i+1])
		default:
			parent := up[len(up)-1]
			last, errno = x.Insert(parent, children[parent], string([]byte{b}))
			children[parent]++
		}
		if errno != api.OK {
			t.Fatalf("P6, P7: the tree %s gives the error %d at %d", tree, errno, i)
		}
	}
	return x
}

func tryQuery(t *testing.T, x *style.Doc, e int, property string, want int, errno api.Errno) {
	t.Helper()
	if got, gotErrno := x.Query(e, property); got != want || gotErrno != errno {
		t.Errorf("P8: Query(%d, %.20q) = %d, %d, want %d, %d", e, property, got, gotErrno, want, errno)
	}
}

// tryValues compares a property's values on the elements from 0 on.
func tryValues(t *testing.T, x *style.Doc, property string, want ...int) {
	t.Helper()
	for e, value := range want {
		tryQuery(t, x, e, property, value, api.OK)
	}
}

// tryNine compares all properties of an element, in the order of nine.
func tryNine(t *testing.T, x *style.Doc, e int, want ...int) {
	t.Helper()
	for i, value := range want {
		tryQuery(t, x, e, nine[i:i+1], value, api.OK)
	}
}

func TestExamplesOfQuery(t *testing.T) {
	x := begin(t, "a{A:7;D:8}a>b{D:i;E:9!}b{E:10}", "a")
	tryInsert(t, x, 0, 0, "b", 1, api.OK)
	tryNine(t, x, 0, 7, 2, 3, 8, 5, 6, 0, 0, 0)
	tryNine(t, x, 1, 7, 2, 3, 8, 9, 6, 0, 0, 0)
	x = begin(t, "@1a{A:1}@2a{A:2}a{A:3}@1a{B:1!}@2a{B:2!}a{B:3!}", "a")
	tryNine(t, x, 0, 3, 1, 3, 4, 5, 6, 0, 0, 0)
	x = grow(t, "a{X:5;A:$X;Y:$Z;Z:$Y;B:$Y}b{Y:7}", "a(b)")
	tryNine(t, x, 0, 5, 0, 3, 4, 5, 6, 5, 0, 0)
	tryNine(t, x, 1, 5, 0, 3, 4, 5, 6, 5, 7, 0)
	x = grow(t, "b:f{A:11}b:l{B:12}b:n21{C:13}:e{D:14}!:e{D:15}", "a(bbb)")
	tryValues(t, x, "A", 1, 11, 1, 1)
	tryValues(t, x, "B", 2, 2, 2, 12)
	tryValues(t, x, "C", 3, 13, 3, 13)
	tryValues(t, x, "D", 15, 14, 14, 14)
	x = grow(t, ".c{A:9}", "a(b)")
	tryQuery(t, x, 1, "A", 1, api.OK)
	if errno := x.Class(1, "c", true); errno != api.OK {
		t.Errorf("P7: Class(1, c, true) = %d", errno)
	}
	tryValues(t, x, "A", 1, 9)
}

func TestQueryRefuses(t *testing.T) {
	x := grow(t, "*{A:9}", "a(b(c)b)")
	tryRemove(t, x, 1, api.OK)
	for _, e := range []int{-1, 1, 2, 4, 24, greatest, least} {
		for _, property := range []string{"A", "X", "", "a", "AB", "\xff", strings.Repeat("A", 1000000)} {
			tryQuery(t, x, e, property, 0, api.ErrElement)
		}
	}
	for b := 0; b < 256; b++ {
		property := string([]byte{byte(b)})
		if strings.Contains(nine, property) {
			continue
		}
		tryQuery(t, x, 0, property, 0, api.ErrArg)
		tryQuery(t, x, 3, property, 0, api.ErrArg)
	}
	for _, property := range []string{"", "AA", "AB", "A ", " A", "A\x00", "$X", "XYZ", "Ä", "\u0410", "\uff21", strings.Repeat("A", 1000000)} {
		tryQuery(t, x, 0, property, 0, api.ErrArg)
	}
	tryNine(t, x, 0, 9, 2, 3, 4, 5, 6, 0, 0, 0)
	tryNine(t, x, 3, 9, 2, 3, 4, 5, 6, 0, 0, 0)
}

// tryLooks compares all values of all elements with the reference.
func tryLooks(t *testing.T, x *style.Doc, m *model, sheet string) {
	t.Helper()
	for n, looks := range m.looks(sheet) {
		for property, want := range looks {
			tryQuery(t, x, n.number, property, want, api.OK)
		}
	}
}

func randomLook(random *rand.Rand) string {
	compound := func() string {
		text := pick(random, "a", "b", "*", "")
		for text == "" || random.Intn(3) == 0 {
			simple := pick(random, ".a", ".b", "#a", "#b", ":f", ":l", ":e", ":n"+strconv.Itoa(random.Intn(4))+strconv.Itoa(random.Intn(4)))
			text += pick(random, simple, simple, simple, "!"+simple, "!a", "!b")
		}
		return text
	}
	selector := func() string {
		text := compound()
		for n := random.Intn(api.MaxChain); n > 0 && random.Intn(3) > 0; n-- {
			text += pick(random, " ", ">", "+", "~") + compound()
		}
		return text
	}
	text := pick(random, "", "", "", "@0", "@1", "@9") + selector()
	for random.Intn(4) == 0 {
		text += "," + selector()
	}
	text += "{" + randomDeclaration(random)
	for random.Intn(2) == 0 {
		text += ";" + pick(random, "X", "Y", "Z", "A", "D") + ":" + pick(random, "i", "r", "u", "$X", "$Y", "$Z", strconv.Itoa(random.Intn(1000))) + pick(random, "", "", "!")
	}
	return text + "}"
}

func randomLooks(random *rand.Rand) string {
	sheet := ""
	for n := random.Intn(api.MaxRules); n > 0; n-- {
		if rule := randomLook(random); len(sheet)+len(rule) <= api.MaxText {
			sheet += rule
		}
	}
	return sheet
}

// TestValuesAgainstTheReference asks for all values whenever something has been done, or was refused.
func TestValuesAgainstTheReference(t *testing.T) {
	random := rand.New(rand.NewSource(7))
	for run := 0; run < 60; run++ {
		sheet := randomLooks(random)
		x, m := begin(t, sheet, "a"), newModel("a")
		for i := 0; i < 80; i++ {
			if random.Intn(8) == 0 {
				next := pick(random, randomLooks(random), spoil(random, sheet))
				want, _ := expectedCheck(next)
				if got := x.Sheet(next); got != want {
					t.Fatalf("P7: Sheet(%q) = %d, want %d", next, got, want)
				}
				if want == api.OK {
					sheet = next
				}
			} else if _, got, want := step(random, x, m); got != want {
				t.Fatalf("P6, P7: run %d, step %d: call, number and error are %v, want %v", run, i, got, want)
			}
			tryLooks(t, x, m, sheet)
			if t.Failed() {
				t.Fatalf("run %d, step %d: the sheet is %s", run, i, sheet)
			}
		}
	}
}

// TestQueriesEnd takes the sheets and trees in which there is most to try: all ways to lay a chain fail at its start.
func TestQueriesEnd(t *testing.T) {
	for _, sign := range []string{" ", ">", "+", "~"} {
		chain := "z" + strings.Repeat(sign+"*", api.MaxChain-1)
		sheet := chain
		for len(sheet)+1+len(chain)+len("{A:9}") <= api.MaxText {
			sheet += "," + chain
		}
		sheet += "{A:9}"
		deep, wide := "a", "a("+strings.Repeat("a", api.MaxElements-1)+")"
		for i := 1; i < api.MaxElements; i++ {
			deep = "a(" + deep + ")"
		}
		for _, tree := range []string{deep, wide} {
			tryQuery(t, grow(t, sheet, tree), api.MaxElements-1, "A", 1, api.OK)
		}
	}
}
