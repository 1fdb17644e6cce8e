package style_test

import (
	"math/rand"
	"strings"
	"testing"

	"style/api"
	"style/style"
)

// tryAnswer looks at what holds of every answer, whatever the text: P1's zeros and a place inside the text.
func tryAnswer(t *testing.T, sheet string, rule, selector int) {
	t.Helper()
	errno, place := style.Check(sheet)
	if errno < api.OK || errno > api.ErrMany {
		t.Errorf("P1: Check(%.80q) answers the error %d", sheet, errno)
	}
	if place < 0 || place > len(sheet) || (place != 0 && errno != api.ErrSyntax && errno != api.ErrMany) {
		t.Errorf("P1: Check(%.80q) = %d, %d", sheet, errno, place)
	}
	weight, got := style.Weight(sheet, rule, selector)
	if got != api.OK && weight != 0 {
		t.Errorf("P1: Weight(%.80q, %d, %d) = %d, %d", sheet, rule, selector, weight, got)
	}
	if errno != api.OK && got != errno {
		t.Errorf("P1: Weight(%.80q, %d, %d) answers %d, Check %d", sheet, rule, selector, got, errno)
	}
}

func TestTextsOfAnyLengthAndAnyBytes(t *testing.T) {
	for b := 0; b < 256; b++ {
		for length := 0; length <= api.MaxText+2; length++ {
			tryAnswer(t, strings.Repeat(string([]byte{byte(b)}), length), 0, 0)
		}
	}
	for _, piece := range []string{"a{}", "#a", "!", "a ", "a,", "A:1;", "\xff\xfe", "ä"} {
		for _, times := range []int{1, 100, 134, 200, 201, 1000000} {
			tryAnswer(t, strings.Repeat(piece, times), 0, 0)
		}
	}
	random := rand.New(rand.NewSource(3))
	for i := 0; i < 20000; i++ {
		text := make([]byte, random.Intn(api.MaxText+10))
		random.Read(text)
		tryAnswer(t, string(text), random.Int()-random.Int(), random.Int()-random.Int())
	}
}

func TestAnswersHangOnTheArgumentsAlone(t *testing.T) {
	random := rand.New(rand.NewSource(4))
	var sheets []string
	var errnos []api.Errno
	var places, weights []int
	for i := 0; i < 500; i++ {
		sheet := randomSheet(random)
		if i%2 == 0 {
			sheet = spoil(random, sheet)
		}
		errno, place := style.Check(sheet)
		weight, _ := style.Weight(sheet, 0, 0)
		sheets = append(sheets, sheet)
		errnos = append(errnos, errno)
		places = append(places, place)
		weights = append(weights, weight)
	}
	for _, i := range random.Perm(len(sheets)) {
		weight, _ := style.Weight(strings.Clone(sheets[i]), 0, 0)
		errno, place := style.Check(strings.Clone(sheets[i]))
		if errno != errnos[i] || place != places[i] || weight != weights[i] {
			t.Errorf("P2: of %.80q: first %d, %d, %d, later %d, %d, %d", sheets[i], errnos[i], places[i], weights[i], errno, place, weight)
		}
	}
}

func TestNumbersOfTheDocument(t *testing.T) {
	errnos := []api.Errno{api.OK, api.ErrLong, api.ErrSyntax, api.ErrMany, api.ErrArg, api.ErrElement, api.ErrRoot, api.ErrCycle, api.ErrPlace, api.ErrFull}
	for number, errno := range errnos {
		if int(errno) != number {
			t.Errorf("Words: the error number %d is %d", number, errno)
		}
	}
	if api.MaxText != 400 || api.MaxRules != 20 || api.MaxChain != 4 || api.MaxElements != 24 {
		t.Errorf("Words: the bounds are %d, %d, %d, %d", api.MaxText, api.MaxRules, api.MaxChain, api.MaxElements)
	}
}
