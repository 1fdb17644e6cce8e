package style_test

import (
	"math/rand"
	"reflect"
	"strings"
	"testing"

	"style/api"
	"style/style"
)

// pieces is a document and what is known of it by the model, the sheet's text and what was shown.
type pieces struct {
	t      *testing.T
	random *rand.Rand
	x      *style.Doc
	m      *model
	sheet  string
	shown  map[*node]bool
	turned int
}

func (p *pieces) wanted(n *node) bool {
	if p.shown[n] {
		return true
	}
	for _, child := range n.children {
		if p.wanted(child) {
			return true
		}
	}
	return false
}

func (n *node) below() []*node {
	list := []*node{n}
	for _, child := range n.children {
		list = append(list, child.below()...)
	}
	return list
}

// house has the numbers of P10's house of an element.
func (m *model) house(e int) []int {
	n := m.find(e)
	if n == nil {
		return nil
	}
	if n.parent != nil {
		n = n.parent
	}
	var list []int
	for _, each := range n.below() {
		list = append(list, each.number)
	}
	return list
}

// stands tells whether a sign and a letter, such as `.c`, are in a selector of the sheet.
func stands(sheet, part string) bool {
	for _, rule := range ruleExpression.FindAllString(sheet, -1) {
		for _, selector := range selectorsOf(rule) {
			if len(part) == 2 && strings.Contains(selector, part) {
				return true
			}
		}
	}
	return false
}

// grow puts some elements in, so that there are later siblings, and elements below these, for changes to tell on.
func (p *pieces) grow() {
	for range p.random.Intn(api.MaxElements) {
		parent, kind := p.random.Intn(p.m.made), pick(p.random, "a", "b")
		p.x.Insert(parent, 0, kind)
		p.m.insert(parent, 0, kind)
	}
}

// change does something to the document and the model, and answers which elements may become stale.
func (p *pieces) change() (api.Errno, api.Errno, []int) {
	e, parent, at, word := number(p.random, p.m.made), number(p.random, p.m.made), place(p.random), text(p.random)
	switch way := p.random.Intn(48); {
	case way < 10:
		got, errno := p.x.Insert(parent, at, word)
		want, wanted := p.m.insert(parent, at, word)
		if got != want {
			p.t.Fatalf("P6: Insert = %d, want %d", got, want)
		}
		return errno, wanted, p.m.house(parent)
	case way < 12:
		old := p.m.find(e)
		errno, wanted := p.x.Remove(e), p.m.remove(e)
		if old == nil || old.parent == nil {
			return errno, wanted, nil
		}
		return errno, wanted, p.m.house(old.parent.number)
	case way < 20:
		old := -1
		if n := p.m.find(e); n != nil && n.parent != nil {
			old = n.parent.number
		}
		errno, wanted := p.x.Move(e, parent, at), p.m.move(e, parent, at)
		return errno, wanted, append(p.m.house(old), p.m.house(parent)...)
	case way < 22:
		return p.changeSheet()
	case way < 34:
		return p.changeName(e, word)
	}
	return p.changeClass(e, word, at > 1)
}

func (p *pieces) changeSheet() (api.Errno, api.Errno, []int) {
	next := pick(p.random, randomLooks(p.random), randomLook(p.random), randomLook(p.random), spoil(p.random, p.sheet))
	errno := p.x.Sheet(next)
	wanted, _ := expectedCheck(next)
	if wanted == api.OK {
		p.sheet = next
	}
	return errno, wanted, p.m.house(0)
}

func (p *pieces) changeName(e int, word string) (api.Errno, api.Errno, []int) {
	old := ""
	if n := p.m.find(e); n != nil {
		old = n.name
	}
	errno, wanted := p.x.Name(e, word), p.m.setName(e, word)
	if old == word || !stands(p.sheet, "#"+old) && !stands(p.sheet, "#"+word) {
		return errno, wanted, nil
	}
	return errno, wanted, p.m.house(e)
}

func (p *pieces) changeClass(e int, word string, on bool) (api.Errno, api.Errno, []int) {
	n := p.m.find(e)
	as := n != nil && n.classes[word] == on
	errno, wanted := p.x.Class(e, word, on), p.m.class(e, word, on)
	if as || !stands(p.sheet, "."+word) {
		return errno, wanted, nil
	}
	return errno, wanted, p.m.house(e)
}

// tryTurn does something: what was stale stays so, and what becomes so is new or among those that may.
func (p *pieces) tryTurn() {
	p.t.Helper()
	made, before := p.m.made, p.x.Stale()
	errno, wanted, may := p.change()
	if errno != wanted {
		p.t.Fatalf("P6, P7: the error %d, want %d", errno, wanted)
	}
	after := p.x.Stale()
	if errno != api.OK && !reflect.DeepEqual(before, after) {
		p.t.Errorf("P1: with the error %d stale were %v and are %v", errno, before, after)
	}
	for _, e := range before {
		if p.m.find(e) != nil && !isAmong(after, e) {
			p.t.Errorf("P9: %d has become fresh", e)
		}
	}
	for _, e := range after {
		if e < made && !isAmong(before, e) {
			p.turned++
			if !isAmong(may, e) {
				p.t.Errorf("P10: %d has become stale, only %v may", e, may)
			}
		}
	}
	if p.m.made > made && !isAmong(after, made) {
		p.t.Errorf("P9: the new element %d is fresh", made)
	}
}

func (p *pieces) trySlice() {
	p.t.Helper()
	budgets := []int{least, -1, 0, 1, 2, 3, 6, 12, api.MaxElements, greatest}
	budget, before := budgets[p.random.Intn(len(budgets))], p.x.Stale()
	want := min(max(budget, 0), len(before))
	trySlice(p.t, p.x, budget, want)
	after := p.x.Stale()
	if len(after) != len(before)-want {
		p.t.Errorf("P11: behind Slice(%d) stale were %v and are %v", budget, before, after)
	}
	wantedLeft, otherMade := false, false
	for _, n := range p.m.all() {
		was, is, wanted := isAmong(before, n.number), isAmong(after, n.number), p.wanted(n)
		if is && !was {
			p.t.Errorf("P10: Slice makes %d stale", n.number)
		}
		wantedLeft = wantedLeft || is && wanted
		otherMade = otherMade || was && !is && !wanted
	}
	if wantedLeft && otherMade {
		p.t.Errorf("P11: Slice(%d) makes others fresh than wanted ones: stale were %v and are %v", budget, before, after)
	}
}

func (p *pieces) tryAsk() {
	p.t.Helper()
	e, property := number(p.random, p.m.made), pick(p.random, "A", "D", "X", "", "q", "AB")
	before := p.x.Stale()
	_, errno := p.x.Query(e, property)
	want := before
	if errno == api.OK {
		want = nil
		for _, each := range before {
			above := p.m.find(e)
			for above != nil && above.number != each {
				above = above.parent
			}
			if above == nil {
				want = append(want, each)
			}
		}
	}
	tryStale(p.t, p.x, want...)
}

func (p *pieces) tryShow() {
	p.t.Helper()
	e, on := number(p.random, p.m.made), p.random.Intn(3) > 0
	before := p.x.Stale()
	want := api.ErrElement
	if n := p.m.find(e); n != nil {
		want = api.OK
		p.shown[n] = on
	}
	if got := p.x.Show(e, on); got != want {
		p.t.Errorf("P12: Show(%d, %v) = %d, want %d", e, on, got, want)
	}
	tryStale(p.t, p.x, before...)
}

// tryAll compares all that is kept with the reference, and Stale with Stored.
func (p *pieces) tryAll() {
	p.t.Helper()
	var fresh [2000]bool
	for n, looks := range p.m.looks(p.sheet) {
		_, fresh[n.number], _ = p.x.Stored(n.number, "A")
		for property, want := range looks {
			if !fresh[n.number] {
				want = 0
			}
			tryStored(p.t, p.x, n.number, property, want, fresh[n.number], api.OK)
		}
	}
	var stale []int
	for e := range p.m.made {
		if p.m.find(e) != nil && !fresh[e] {
			stale = append(stale, e)
		}
	}
	tryStale(p.t, p.x, stale...)
}

// tryEnd gives budgets until they are together as great as there are stale elements.
func (p *pieces) tryEnd() {
	p.t.Helper()
	for left := len(p.x.Stale()); left > 0; {
		budget := p.random.Intn(5)
		p.x.Slice(budget)
		left -= budget
	}
	tryStale(p.t, p.x)
	p.tryAll()
	tryLooks(p.t, p.x, p.m, p.sheet)
}

func TestPiecesAgainstTheModel(t *testing.T) {
	random := rand.New(rand.NewSource(8))
	turned := 0
	for run := 0; run < 200; run++ {
		sheet := pick(random, randomLooks(random), randomLook(random), randomLook(random)+randomLook(random))
		p := &pieces{t: t, random: random, x: begin(t, sheet, "a"), m: newModel("a"), sheet: sheet, shown: map[*node]bool{}}
		p.grow()
		for i := 0; i < 100; i++ {
			switch way := random.Intn(10); {
			case way < 5:
				p.tryTurn()
			case way < 8:
				p.trySlice()
			case way < 9:
				p.tryAsk()
			default:
				p.tryShow()
			}
			p.tryAll()
			if t.Failed() {
				t.Fatalf("run %d, step %d: the sheet is %s", run, i, p.sheet)
			}
		}
		p.tryEnd()
		turned += p.turned
	}
	if turned < 2000 {
		t.Errorf("only %d elements have become stale", turned)
	}
}
