package mark

import (
	"fmt"
	"math"
	"math/rand"
	"slices"
	"testing"

	"reliquary/api"
	"reliquary/heap"
	"reliquary/nvm"
	"reliquary/rec"
	"reliquary/tree"
	"reliquary/tx"
)

// graph is what hangs on what.
type graph map[int][]int

// asking is a function for From that tells what hangs on what, and the list of those that it was asked for.
func asking(g graph) (of func(int) ([]int, api.Errno), asked *[]int) {
	asked = new([]int)
	return func(at int) ([]int, api.Errno) {
		*asked = append(*asked, at)
		return g[at], api.OK
	}, asked
}

// plainly is what From must ask for, in that order, and answer.
func plainly(roots []int, g graph, most int) (asked, told []int, e api.Errno) {
	found := map[int]int{} // 1: not asked for yet; 2: asked for
	find := func(l []int) {
		for _, at := range l {
			if at != 0 && found[at] == 0 {
				found[at] = 1
			}
		}
	}
	for find(roots); ; {
		least, waits := 0, false
		for at, state := range found {
			if state == 1 && (!waits || at < least) {
				least, waits = at, true
			}
		}
		if !waits {
			break
		}
		if len(found) > most {
			return asked, nil, api.ErrBig
		}
		asked = append(asked, least)
		found[least] = 2
		find(g[least])
	}
	told = slices.Clone(asked)
	slices.Sort(told)
	return asked, told, api.OK
}

// mustAnswer checks From against what must be asked for and answered.
func mustAnswer(t *testing.T, roots []int, g graph, most int) {
	t.Helper()
	wantAsked, want, wantE := plainly(roots, g, most)
	of, asked := asking(g)
	got, e := From(roots, of, most)
	if !slices.Equal(got, want) || e != wantE || !slices.Equal(*asked, wantAsked) {
		t.Fatalf("From(%v, %v, %d): %v %v, asked for %v; want %v %v, %v", roots, g, most, got, e, *asked, want, wantE, wantAsked)
	}
}

// panicked is what f panics with; nil if it does not.
func panicked(f func()) (v any) {
	defer func() { v = recover() }()
	f()
	return nil
}

// roomy is a list with marked room behind it, and a check that neither was changed.
func roomy(t *testing.T, l ...int) (list []int, unchanged func()) {
	whole := append(slices.Clone(l), 77, 78, 79, 80)
	was := slices.Clone(whole)
	return whole[:len(l)], func() {
		t.Helper()
		if !slices.Equal(whole, was) {
			t.Errorf("changed: %v, was %v", whole, was)
		}
	}
}

// scribble writes over an answer and the room behind it.
func scribble(l []int) {
	l = l[:cap(l)]
	for i := range l {
		l[i] = -999
	}
}

// 15.1

func TestExample(t *testing.T) {
	of, _ := asking(graph{1: {2}, 2: {1}})
	if l, e := From([]int{1}, of, 9); !slices.Equal(l, []int{1, 2}) || e != api.OK {
		t.Error(l, e)
	}
	if gone, wild := Split([]int{1, 2}, []int{2, 3}); !slices.Equal(gone, []int{1}) || !slices.Equal(wild, []int{3}) {
		t.Error(gone, wild)
	}
}

func TestTheLeastIsAskedFor(t *testing.T) {
	for _, c := range []struct {
		roots       []int
		g           graph
		asked, told []int
	}{
		{nil, nil, nil, nil},
		{[]int{}, graph{1: {2}}, nil, nil},
		{[]int{5}, nil, []int{5}, []int{5}},
		{[]int{5, 3, 4}, nil, []int{3, 4, 5}, []int{3, 4, 5}},
		{[]int{5, 3, 5, 3, 3}, nil, []int{3, 5}, []int{3, 5}},
		// What was found by now is less than what waits from earlier on, and more.
		{[]int{5, 9}, graph{5: {1, 7}, 1: {12}, 7: {6}}, []int{5, 1, 7, 6, 9, 12}, []int{1, 5, 6, 7, 9, 12}},
		// Rings, and what hangs on itself.
		{[]int{1}, graph{1: {1}}, []int{1}, []int{1}},
		{[]int{3}, graph{3: {2, 3}, 2: {1}, 1: {3, 2}}, []int{3, 2, 1}, []int{1, 2, 3}},
		// What hangs on several, and several times on one.
		{[]int{1, 2}, graph{1: {4, 4, 4}, 2: {4, 1}, 4: {1, 4}}, []int{1, 2, 4}, []int{1, 2, 4}},
		// What does not hang on the roots.
		{[]int{2}, graph{1: {2}, 2: {4}, 3: {4}}, []int{2, 4}, []int{2, 4}},
		// Numbers below nought, and the outermost.
		{[]int{1, -3}, graph{-3: {-7, 2}}, []int{-3, -7, 1, 2}, []int{-7, -3, 1, 2}},
		{[]int{math.MaxInt}, graph{math.MaxInt: {math.MinInt, -1}, -1: {1}}, []int{math.MaxInt, math.MinInt, -1, 1}, []int{math.MinInt, -1, 1, math.MaxInt}},
	} {
		of, asked := asking(c.g)
		l, e := From(c.roots, of, 99)
		if !slices.Equal(l, c.told) || e != api.OK || !slices.Equal(*asked, c.asked) {
			t.Errorf("%v %v: %v %v, asked for %v", c.roots, c.g, l, e, *asked)
		}
		mustAnswer(t, c.roots, c.g, 99)
	}
}

// 0 is nothing: neither asked for, nor told, nor counted.
func TestNought(t *testing.T) {
	g := graph{0: {8}, 1: {0, 2, 0}, 2: {0}}
	for _, roots := range [][]int{{0}, {0, 0, 0}} {
		of, asked := asking(g)
		if l, e := From(roots, of, 0); len(l) != 0 || e != api.OK || len(*asked) != 0 {
			t.Error(roots, l, e, *asked)
		}
		if l, e := From(roots, of, -1); len(l) != 0 || e != api.OK || len(*asked) != 0 {
			t.Error(roots, l, e, *asked)
		}
	}
	of, asked := asking(g)
	if l, e := From([]int{0, 1, 0}, of, 2); !slices.Equal(l, []int{1, 2}) || e != api.OK || !slices.Equal(*asked, []int{1, 2}) {
		t.Error(l, e, *asked)
	}
}

// The error of of ends it at once, and beside it nothing is told.
func TestErrors(t *testing.T) {
	for _, wrong := range []api.Errno{api.ErrArg, api.ErrForm, api.ErrBig, api.ErrDead, api.ErrNone, -1, 12345} {
		for bad := 1; bad <= 5; bad++ {
			var asked []int
			of := func(at int) ([]int, api.Errno) {
				asked = append(asked, at)
				if at == bad {
					return []int{at + 1, at + 2}, wrong
				}
				return []int{at + 1}, api.OK
			}
			if l, e := From([]int{1, 9}, of, 99); len(l) != 0 || e != wrong || len(asked) != bad {
				t.Error(wrong, bad, l, e, asked)
			}
		}
	}
}

// Though there would be too many behind it, the error of of comes first, and the other way round.
func TestWhichErrorComesFirst(t *testing.T) {
	of := func(at int) ([]int, api.Errno) { return []int{7, 8, 9}, api.ErrForm }
	if l, e := From([]int{1}, of, 1); len(l) != 0 || e != api.ErrForm {
		t.Error(l, e)
	}
	if l, e := From([]int{1, 2}, of, 1); len(l) != 0 || e != api.ErrBig {
		t.Error(l, e)
	}
}

// More than most is seen ahead of the next call of of, whether found or asked for.
func TestMost(t *testing.T) {
	g := graph{10: {20, 30}, 20: {5, 40}, 30: {10, 20}, 40: {50}}
	for _, c := range []struct {
		most  int
		asked []int
		e     api.Errno
	}{
		{math.MinInt, nil, api.ErrBig},
		{-1, nil, api.ErrBig},
		{0, nil, api.ErrBig},
		{1, []int{10}, api.ErrBig},
		{2, []int{10}, api.ErrBig},
		{3, []int{10, 20}, api.ErrBig},
		{4, []int{10, 20}, api.ErrBig},
		{5, []int{10, 20, 5, 30, 40}, api.ErrBig},
		{6, []int{10, 20, 5, 30, 40, 50}, api.OK},
		{7, []int{10, 20, 5, 30, 40, 50}, api.OK},
		{math.MaxInt, []int{10, 20, 5, 30, 40, 50}, api.OK},
	} {
		of, asked := asking(g)
		l, e := From([]int{10}, of, c.most)
		if e != c.e || !slices.Equal(*asked, c.asked) || (e != api.OK && len(l) != 0) || (e == api.OK && len(l) != 6) {
			t.Errorf("%d: %v %v, asked for %v", c.most, l, e, *asked)
		}
		mustAnswer(t, []int{10}, g, c.most)
	}
	// Roots alone.
	for most := -1; most < 5; most++ {
		mustAnswer(t, []int{3, 1, 3, 0, 2, 1}, nil, most)
	}
}

// Nothing is asked for, so there is nothing to be more than most.
func TestNoRoots(t *testing.T) {
	of, asked := asking(graph{0: {1}})
	for _, most := range []int{math.MinInt, -1, 0, 1, math.MaxInt} {
		for _, roots := range [][]int{nil, {}, {0}} {
			if l, e := From(roots, of, most); len(l) != 0 || e != api.OK {
				t.Error(roots, most, l, e)
			}
			if l, e := From(roots, nil, most); len(l) != 0 || e != api.OK {
				t.Error(roots, most, l, e)
			}
		}
	}
	if len(*asked) != 0 {
		t.Error(*asked)
	}
}

func TestNilOf(t *testing.T) {
	if l, e := From([]int{4, 2, 0, 4}, nil, 2); !slices.Equal(l, []int{2, 4}) || e != api.OK {
		t.Error(l, e)
	}
	if l, e := From([]int{4, 2}, nil, 1); len(l) != 0 || e != api.ErrBig {
		t.Error(l, e)
	}
}

func TestSplit(t *testing.T) {
	for _, c := range []struct{ all, live, gone, wild []int }{
		{nil, nil, nil, nil},
		{nil, []int{}, nil, nil},
		{[]int{1}, nil, []int{1}, nil},
		{nil, []int{1}, nil, []int{1}},
		{[]int{1}, []int{1}, nil, nil},
		{[]int{1}, []int{2}, []int{1}, []int{2}},
		{[]int{2}, []int{1}, []int{2}, []int{1}},
		{[]int{1, 2, 3}, []int{1, 2, 3}, nil, nil},
		{[]int{1, 2, 3}, []int{2}, []int{1, 3}, nil},
		{[]int{2}, []int{1, 2, 3}, nil, []int{1, 3}},
		{[]int{1, 2, 4}, []int{2, 3, 5}, []int{1, 4}, []int{3, 5}},
		{[]int{1, 2, 3}, []int{7, 8}, []int{1, 2, 3}, []int{7, 8}},
		{[]int{7, 8}, []int{1, 2, 3}, []int{7, 8}, []int{1, 2, 3}},
		{[]int{-2, 0, 2}, []int{-3, 0, 3}, []int{-2, 2}, []int{-3, 3}},
		{[]int{0}, nil, []int{0}, nil},
		{[]int{math.MinInt, 0}, []int{0, math.MaxInt}, []int{math.MinInt}, []int{math.MaxInt}},
		{[]int{math.MinInt, math.MaxInt}, []int{math.MinInt, math.MaxInt}, nil, nil},
		// What is in both is in neither alone, however often it is there.
		{[]int{1, 1, 2}, []int{1, 3, 3}, []int{2}, []int{3, 3}},
		{[]int{1, 4}, []int{1, 1, 1}, []int{4}, nil},
	} {
		if gone, wild := Split(c.all, c.live); !slices.Equal(gone, c.gone) || !slices.Equal(wild, c.wild) {
			t.Error(c.all, c.live, gone, wild)
		}
	}
}

// All pairs of lists of some few numbers.
func TestSplitOfAll(t *testing.T) {
	list := func(set int) []int {
		var l []int
		for i := range 6 {
			if set>>i&1 == 1 {
				l = append(l, i*i-5)
			}
		}
		return l
	}
	for a := range 64 {
		for b := range 64 {
			if gone, wild := Split(list(a), list(b)); !slices.Equal(gone, list(a&^b)) || !slices.Equal(wild, list(b&^a)) {
				t.Fatal(list(a), list(b), gone, wild)
			}
		}
	}
}

func TestCountAndOnce(t *testing.T) {
	for _, c := range []struct {
		l, often, once []int
		ok             bool
	}{
		{nil, nil, nil, true},
		{[]int{}, nil, nil, true},
		{[]int{0}, []int{1}, []int{0}, true},
		{[]int{0, 0}, []int{2}, []int{0}, false},
		{[]int{5}, []int{1}, []int{5}, true},
		{[]int{2, 1}, []int{1, 1}, []int{1, 2}, true},
		{[]int{3, 1, 3, 2, 3, 1}, []int{2, 1, 3}, []int{1, 2, 3}, false},
		{[]int{1, 2, 3, 3}, []int{1, 1, 2}, []int{1, 2, 3}, false},
		{[]int{3, 2, 1, 3}, []int{1, 1, 2}, []int{1, 2, 3}, false},
		{[]int{-1, 0, 1, -1}, []int{2, 1, 1}, []int{-1, 0, 1}, false},
		{[]int{math.MaxInt, math.MinInt, 0}, []int{1, 1, 1}, []int{math.MinInt, 0, math.MaxInt}, true},
		{[]int{math.MaxInt, math.MinInt, math.MaxInt}, []int{1, 2}, []int{math.MinInt, math.MaxInt}, false},
	} {
		if often := Count(c.l); !slices.Equal(often, c.often) {
			t.Error("Count", c.l, often)
		}
		if once, ok := Once(c.l); !slices.Equal(once, c.once) || ok != c.ok {
			t.Error("Once", c.l, once, ok)
		}
	}
}

func TestCountAndOnceAgainstMaps(t *testing.T) {
	r := rand.New(rand.NewSource(15))
	for range 2000 {
		var l []int
		times := map[int]int{}
		of := 1 + r.Intn(40)
		for range r.Intn(30) {
			at := r.Intn(of) - of/2
			l = append(l, at)
			times[at]++
		}
		var want, often []int
		for at := -of; at <= of; at++ {
			if times[at] > 0 {
				want, often = append(want, at), append(often, times[at])
			}
		}
		if got := Count(l); !slices.Equal(got, often) {
			t.Fatal("Count", l, got)
		}
		if got, ok := Once(l); !slices.Equal(got, want) || ok != (len(want) == len(l)) {
			t.Fatal("Once", l, got, ok)
		}
	}
}

// 15.2

// random is a graph of numbers from -n to n, nought among them, in which each has few that hang on it.
func random(r *rand.Rand, n int) graph {
	g := graph{}
	for at := -n; at <= n; at++ {
		for range r.Intn(4) {
			g[at] = append(g[at], r.Intn(2*n+1)-n)
		}
	}
	return g
}

func TestClosed(t *testing.T) {
	r := rand.New(rand.NewSource(15))
	for range 3000 {
		n := 1 + r.Intn(25)
		g := random(r, n)
		var roots []int
		for range r.Intn(5) {
			roots = append(roots, r.Intn(2*n+1)-n)
		}
		mustAnswer(t, roots, g, r.Intn(2*n+3)-1)
		mustAnswer(t, roots, g, math.MaxInt)
		of, _ := asking(g)
		told, _ := From(roots, of, math.MaxInt)
		for _, at := range roots {
			if !slices.Contains(told, at) && at != 0 {
				t.Fatal(at, "is a root and not told", roots, g, told)
			}
		}
		for _, from := range told {
			for _, at := range g[from] {
				if !slices.Contains(told, at) && at != 0 {
					t.Fatal(at, "hangs on", from, "and is not told", roots, g, told)
				}
			}
		}
		if again, e := From(told, of, len(told)); !slices.Equal(again, told) || e != api.OK {
			t.Fatal(told, again, e)
		}
	}
}

// 15.3

// What waits stands in a list of its own, so neither a long chain nor a broad one is too much.
func TestLongAndBroad(t *testing.T) {
	const n = 300000
	up := func(at int) ([]int, api.Errno) {
		if at == n {
			return nil, api.OK
		}
		return []int{at + 1}, api.OK
	}
	down := func(at int) ([]int, api.Errno) { return []int{at - 1}, api.OK }
	// Each number is found, all of them out of order, ahead of most calls.
	broad := func(at int) ([]int, api.Errno) {
		if at != n {
			return nil, api.OK
		}
		var l []int
		for i := range n {
			l = append(l, 1+(i*7919)%n)
		}
		return l, api.OK
	}
	double := func(at int) ([]int, api.Errno) {
		if 2*at > n {
			return nil, api.OK
		}
		return []int{min(2*at+1, n), 2 * at}, api.OK
	}
	for name, c := range map[string]struct {
		root int
		of   func(int) ([]int, api.Errno)
	}{"up": {1, up}, "down": {n, down}, "broad": {n, broad}, "double": {1, double}} {
		l, e := From([]int{c.root}, c.of, n)
		if len(l) != n || e != api.OK {
			t.Fatal(name, len(l), e)
		}
		for i, at := range l {
			if at != i+1 {
				t.Fatal(name, i, at)
			}
		}
		if l, e := From([]int{c.root}, c.of, n-1); len(l) != 0 || e != api.ErrBig {
			t.Fatal(name, len(l), e)
		}
	}
}

// Something always hangs on the last one: most ends it.
func TestEndless(t *testing.T) {
	asked := 0
	of := func(at int) ([]int, api.Errno) {
		asked++
		return []int{at + 1, -at}, api.OK
	}
	for _, most := range []int{0, 1, 2, 100, 5000} {
		asked = 0
		if l, e := From([]int{1}, of, most); len(l) != 0 || e != api.ErrBig || asked > most {
			t.Error(most, len(l), e, asked)
		}
	}
}

func TestOfPanics(t *testing.T) {
	of := func(at int) ([]int, api.Errno) {
		if at == 3 {
			panic(api.ErrTorn)
		}
		return []int{at + 1}, api.OK
	}
	if v := panicked(func() { From([]int{1}, of, 9) }); v != api.ErrTorn {
		t.Error(v)
	}
	if l, e := From([]int{4}, func(at int) ([]int, api.Errno) { return nil, api.OK }, 9); len(l) != 1 || e != api.OK {
		t.Error("behind it", l, e)
	}
}

// Of lists that do not rise nothing is said, but that it ends.
func TestSplitOfWrongLists(t *testing.T) {
	r := rand.New(rand.NewSource(3))
	for range 5000 {
		a, b := r.Perm(r.Intn(9)), r.Perm(r.Intn(9))
		if v := panicked(func() { Split(a, b) }); v != nil {
			t.Fatal(a, b, v)
		}
	}
}

// of may itself ask From.
func TestWithinItself(t *testing.T) {
	inner, _ := asking(graph{1: {2}, 2: {3}})
	outer := func(at int) ([]int, api.Errno) {
		if at > 3 {
			return nil, api.OK
		}
		l, e := From([]int{at}, inner, 3)
		return append(l, at+10), e
	}
	if l, e := From([]int{1}, outer, 9); !slices.Equal(l, []int{1, 2, 3, 11, 12, 13}) || e != api.OK {
		t.Error(l, e)
	}
}

// Rules 3 and 7 of the page

func TestArgumentsStay(t *testing.T) {
	roots, rootsStay := roomy(t, 9, 3, 0, 3)
	hangs, hangsStay := roomy(t, 5, 4, 5, 0)
	of := func(at int) ([]int, api.Errno) { return hangs, api.OK }
	l, e := From(roots, of, 4)
	if !slices.Equal(l, []int{3, 4, 5, 9}) || e != api.OK {
		t.Error(l, e)
	}
	scribble(l)
	rootsStay()
	hangsStay()
	l, _ = From(hangs, nil, 4)
	scribble(l)
	hangsStay()

	all, allStay := roomy(t, 1, 2, 4)
	live, liveStay := roomy(t, 2, 3, 5)
	gone, wild := Split(all, live)
	scribble(gone)
	if !slices.Equal(wild, []int{3, 5}) {
		t.Error("the answers share memory", wild)
	}
	scribble(wild)
	gone, wild = Split(all, nil)
	scribble(gone)
	scribble(wild)
	gone, wild = Split(nil, live)
	scribble(gone)
	scribble(wild)
	allStay()
	liveStay()

	for _, given := range [][]int{{3, 1, 3}, {1, 2, 3}, {2}} {
		l, stays := roomy(t, given...)
		scribble(Count(l))
		once, _ := Once(l)
		scribble(once)
		stays()
	}
}

// What of answers is of use only until of is called again.
func TestOneListForAllAnswers(t *testing.T) {
	room := make([]int, 2)
	of := func(at int) ([]int, api.Errno) {
		room[0], room[1] = 0, 0
		if at < 50 {
			room[0], room[1] = at+2, at+3
		}
		return room, api.OK
	}
	l, e := From([]int{1}, of, 99)
	if len(l) != 51 || l[0] != 1 || l[1] != 3 || l[50] != 52 || e != api.OK {
		t.Error(l, e)
	}
	roots := []int{1, 2}
	l, e = From(roots, func(at int) ([]int, api.Errno) {
		roots[0], roots[1] = 8, 9
		return nil, api.OK
	}, 99)
	if !slices.Equal(l, []int{1, 2}) || e != api.OK {
		t.Error(l, e)
	}
}

// No answer hangs on an order of maps.
func TestTheSameEachTime(t *testing.T) {
	g := random(rand.New(rand.NewSource(8)), 60)
	first := ""
	for range 30 {
		of, asked := asking(g)
		l, e := From([]int{1, 2, 3}, of, 999)
		told := fmt.Sprint(l, e, *asked)
		if first == "" {
			first = told
		}
		if told != first {
			t.Fatal(told, first)
		}
	}
}

// W3

// shelf is a heap with trees whose values are places of records, under roots of which some are kept.
type shelf struct {
	s     *tx.Store
	h     *heap.Heap
	roots []uint64
}

func newShelf(t *testing.T) *shelf {
	t.Helper()
	d, e := nvm.New(12400 + 20000)
	if e != api.OK {
		t.Fatal(e)
	}
	s, e := tx.Open(d)
	if e != api.OK {
		t.Fatal(e)
	}
	h, e := heap.Open(s)
	if e != api.OK {
		t.Fatal(e)
	}
	return &shelf{s: s, h: h}
}

// put makes a new root of the last one, with a record under the key.
func (f *shelf) put(t *testing.T, key, text string) {
	t.Helper()
	var last uint64
	if len(f.roots) > 0 {
		last = f.roots[len(f.roots)-1]
	}
	e := f.s.Do(func() {
		at := rec.Make(f.s, f.h, []byte(text))
		f.roots = append(f.roots, tree.Put(f.s, f.h, last, key, uint64(at)))
	})
	if e != api.OK {
		t.Fatal(e)
	}
}

// taken is all that hangs on roots, by their numbers below nought, told by From: a root has its tree's pieces and its records, a record its further pieces.
func (f *shelf) taken(t *testing.T, kept []int) []int {
	t.Helper()
	var numbers []int
	records := map[int]int{}
	for _, i := range kept {
		numbers = append(numbers, -1-i)
	}
	of := func(at int) ([]int, api.Errno) {
		switch {
		case at < 0:
			l := tree.Pieces(f.s, f.h, f.roots[-1-at])
			for p := range tree.Walk(f.s, f.roots[-1-at], "") {
				records[int(p.V)] = 1
				l = append(l, int(p.V))
			}
			return l, api.OK
		case records[at] == 1:
			return rec.Pieces(f.s, f.h, at), api.OK
		}
		return nil, api.OK
	}
	l, e := From(numbers, of, 99999)
	if e != api.OK {
		t.Fatal(e)
	}
	return l[len(kept):]
}

// What hangs on the roots that are kept stays, and all else gives its room back.
func TestNoLeaks(t *testing.T) {
	f := newShelf(t)
	want := map[string]string{}
	for i := range 12 {
		key, text := fmt.Sprint("key", i%7), fmt.Sprintf("%0*d", 1+i*130, i)
		f.put(t, key, text)
		if i <= 8 {
			want[key] = text
		}
	}
	live := f.taken(t, []int{0, 1, 2, 3, 4, 5, 6, 7, 8, 9, 10, 11})
	if gone, wild := Split(f.h.Pieces(), live); len(gone) != 0 || len(wild) != 0 {
		t.Fatal("all are kept", gone, wild)
	}
	live = f.taken(t, []int{8})
	gone, wild := Split(f.h.Pieces(), live)
	if len(gone) == 0 || len(wild) != 0 {
		t.Fatal(gone, wild)
	}
	f.give(t, gone)
	if !slices.Equal(f.h.Pieces(), live) {
		t.Fatal(f.h.Pieces(), live)
	}
	for key, text := range want {
		at, there := tree.Get(f.s, f.roots[8], key)
		if !there || string(rec.Read(f.s, f.h, int(at))) != text {
			t.Error(key, there)
		}
	}
	gone, wild = Split(f.h.Pieces(), f.taken(t, nil))
	if len(wild) != 0 {
		t.Fatal(wild)
	}
	f.give(t, gone)
	if f.h.Free() != f.h.All() {
		t.Error(f.h.Free(), f.h.All())
	}
}

func (f *shelf) give(t *testing.T, places []int) {
	t.Helper()
	e := f.s.Do(func() {
		for _, at := range places {
			f.h.Give(at)
		}
		if e := f.h.Check(); e != api.OK {
			panic(e)
		}
	})
	if e != api.OK {
		t.Fatal(e)
	}
}

// queue

func TestQueue(t *testing.T) {
	r := rand.New(rand.NewSource(1))
	for range 500 {
		var q queue
		var plain []int
		for range 200 {
			if len(plain) > 0 && r.Intn(3) == 0 {
				want := slices.Min(plain)
				if got := q.takeLeast(); got != want {
					t.Fatal(got, want, plain)
				}
				i := slices.Index(plain, want)
				plain = slices.Delete(plain, i, i+1)
				continue
			}
			at := r.Intn(100) - 50
			q.add(at)
			plain = append(plain, at)
		}
		slices.Sort(plain)
		for _, want := range plain {
			if got := q.takeLeast(); got != want {
				t.Fatal(got, want)
			}
		}
		if len(q) != 0 {
			t.Fatal(q)
		}
	}
}
