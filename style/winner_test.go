package style_test

import (
	"strconv"
	"strings"
	"testing"

	"style/api"
)

// tryWinner asks for D of a root a with the classes x and y and the name n.
func tryWinner(t *testing.T, sheet string, want int) {
	t.Helper()
	x := grow(t, sheet, "a.x.y#n")
	if got, errno := x.Query(0, "D"); got != want || errno != api.OK {
		t.Errorf("P8: of %s: Query(0, D) = %d, %d, want %d", sheet, got, errno, want)
	}
}

func TestImportantBeforeOthers(t *testing.T) {
	tryWinner(t, "a{D:10!}a{D:20}", 10)
	tryWinner(t, "a{D:10}a{D:20!}", 20)
	tryWinner(t, "a{D:10!}#n.x.y{D:20}", 10)
	tryWinner(t, "@0*{D:10!}#n{D:20}", 10)
	tryWinner(t, "*{D:10!}@0#n{D:20}@9#n{D:30}", 10)
	tryWinner(t, "a{D:10!;D:20}", 10)
	tryWinner(t, "a{D:10!;D:20!}", 20)
	tryWinner(t, "a{D:10!;E:20}#n{D:30}", 10)
	tryWinner(t, "a{E:10!;D:20}a{D:30}", 30)
	tryWinner(t, "b{D:10!}a{D:20}", 20)
	tryWinner(t, "a{D:i!}a{D:20}", 4)
}

func TestLayers(t *testing.T) {
	tryWinner(t, "@1a{D:10}@2a{D:20}", 20)
	tryWinner(t, "@2a{D:20}@1a{D:10}", 20)
	tryWinner(t, "@9a{D:20}a{D:10}", 10)
	tryWinner(t, "a{D:10}@9a{D:20}", 10)
	tryWinner(t, "@3#n{D:10}@4*{D:20}", 20)
	tryWinner(t, "@0#n{D:10}@1*{D:20}", 20)
	tryWinner(t, "*{D:10}@9#n.x{D:20}", 10)
	tryWinner(t, "@1a{D:10!}@2a{D:20!}", 10)
	tryWinner(t, "@2a{D:20!}@1a{D:10!}", 10)
	tryWinner(t, "@9a{D:20!}a{D:10!}", 20)
	tryWinner(t, "a{D:10!}@9a{D:20!}", 20)
	tryWinner(t, "@3*{D:10!}@4#n{D:20!}", 10)
	tryWinner(t, "@4#n{D:20!}@3*{D:10!}", 10)
	tryWinner(t, "@0*{D:10!}#n{D:20!}", 10)
	tryWinner(t, "@5a{D:10}@5a{D:20}", 20)
	tryWinner(t, "@5a{D:10!}@5a{D:20!}", 20)
	tryWinner(t, "@5.x{D:10}@5a{D:20}", 10)
	tryWinner(t, "@5.x{D:10!}@5a{D:20!}", 10)
	tryWinner(t, "@7b{D:10}@5a{D:20}", 20)
	for layer := 0; layer < 9; layer++ {
		low, high := "@"+strconv.Itoa(layer)+"a", "@"+strconv.Itoa(layer+1)+"a"
		tryWinner(t, low+"{D:10}"+high+"{D:20}", 20)
		tryWinner(t, high+"{D:20}"+low+"{D:10}", 20)
		tryWinner(t, low+"{D:10!}"+high+"{D:20!}", 10)
		tryWinner(t, high+"{D:20!}"+low+"{D:10!}", 10)
	}
}

func TestWeights(t *testing.T) {
	tryWinner(t, "#n{D:10}a.x.y:f:l:e{D:20}", 10)
	tryWinner(t, ".x{D:10}a{D:20}", 10)
	tryWinner(t, "a{D:10}*{D:20}", 10)
	tryWinner(t, "a.x{D:10}.x{D:20}", 10)
	tryWinner(t, ".x.y{D:10}a.x{D:20}", 10)
	tryWinner(t, ".x.x{D:10}.x{D:20}", 10)
	tryWinner(t, "!#z{D:10}.x{D:20}", 10)
	tryWinner(t, "!b!c{D:10}a{D:20}", 10)
	tryWinner(t, ":n01{D:10}a{D:20}", 10)
	tryWinner(t, "!:n02!:n03{D:10}.x{D:20}", 10)
	tryWinner(t, "#n{D:10!}a{D:20!}", 10)
	x := grow(t, "a b{D:10}b{D:20}.x>b{D:30}a.x>b{D:40;E:10}#z b{D:50}*>b{E:20}", "a.x(b)")
	tryQuery(t, x, 1, "D", 40, api.OK)
	tryQuery(t, x, 1, "E", 10, api.OK)
}

// A rule weighs as the greatest of its selectors that match, wherever that one stands among them.
func TestWeightsOfSeveralSelectors(t *testing.T) {
	tryWinner(t, "#n,a{D:10}.x{D:20}", 10)
	tryWinner(t, "a,#n{D:10}.x{D:20}", 10)
	tryWinner(t, "*,#n,a{D:10}.x.y{D:20}", 10)
	tryWinner(t, "a,#m{D:10}.x{D:20}", 20)
	tryWinner(t, "#m,a{D:10}.x{D:20}", 20)
	tryWinner(t, "#m,b{D:10}", 4)
	tryWinner(t, "a,a,a{D:10}a.x{D:20}a,a{D:30}", 20)
	tryWinner(t, ".x,.y{D:10}.x.y{D:20}.x,.y,a{D:30}", 20)
	x := grow(t, ".x,b{D:10}c,b!:f{D:20}", "a(bb.xb)")
	tryValues(t, x, "D", 4, 10, 20, 20)
	x = grow(t, "b,#n{D:10}.x{D:20}", "a(b.x#nb.xb)")
	tryValues(t, x, "D", 4, 10, 20, 10)
}

func TestTheLaterOfTheSameWeight(t *testing.T) {
	tryWinner(t, "a{D:10}a{D:20}", 20)
	tryWinner(t, "a{D:20}a{D:10}", 10)
	tryWinner(t, ".x{D:10}.y{D:20}:f{D:30}", 30)
	tryWinner(t, "a{D:10;D:20;D:30}", 30)
	tryWinner(t, "a{D:10;E:1}a{E:2}", 10)
	tryWinner(t, "a{D:10}a{}", 10)
	tryWinner(t, "*{D:10}*{D:u}", 4)
	tryWinner(t, strings.Repeat("a{D:1}", api.MaxRules-1)+"a{D:77}", 77)
}
