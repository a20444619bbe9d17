package guard

import (
	"errors"
	"math"
	"runtime"
	"slices"
	"testing"

	"reliquary/api"
	"reliquary/nvm"
)

// escaped is what comes out of f as a panic, caught without the package's own means; nil if nothing does.
func escaped(f func()) (v any) {
	defer func() { v = recover() }()
	f()
	return nil
}

// panics makes a function that panics with v.
func panics(v any) func() {
	return func() { panic(v) }
}

type (
	plain  struct{ a, b int }
	number int
	texter interface{ Text() string }
	texted struct{ t string }
)

func (x texted) Text() string { return x.t }

// wrapper is an error that stands around another one.
type wrapper struct{ inner error }

func (w wrapper) Error() string { return "wrapped" }
func (w wrapper) Unwrap() error { return w.inner }

// values are all kinds of things to panic with.
func values() []any {
	n := 5
	return []any{
		5, 0, -1, "", "x", false, true, 1.5, math.Inf(-1), plain{1, 2}, plain{}, &n, (*int)(nil), number(5),
		api.ErrFull, api.OK, errors.New("e"), wrapper{api.ErrFull}, nvm.Lost{}, nvm.Wrong{Word: 3}, [2]int{1, 2},
	}
}

// faults are what the language itself panics with.
func faults() map[string]func() {
	var list []int
	var table map[string]int
	var null *plain
	var word any = "x"
	nought := 0
	return map[string]func(){
		"index":     func() { list[len(list)] = 1 },
		"map":       func() { table["a"] = 1 },
		"pointer":   func() { null.a = 1 },
		"division":  func() { nought = 1 / nought },
		"assertion": func() { nought = word.(int) },
		"panic nil": func() { panic(nil) },
	}
}

// apart runs f in a goroutine that f may end, and waits for its end: whether f came back.
func apart(f func()) bool {
	back := false
	end := make(chan struct{})
	go func() {
		defer close(end)
		f()
		back = true
	}()
	<-end
	return back
}

// 2.1 Try

func TestTryTellsThePanic(t *testing.T) {
	for _, x := range values() {
		calls := 0
		v, ok := Try(func() { calls++; panic(x) })
		if v != x || !ok || calls != 1 {
			t.Errorf("%#v: %#v %v %d", x, v, ok, calls)
		}
	}
}

func TestTryOfWhatGoesWell(t *testing.T) {
	calls := 0
	if v, ok := Try(func() { calls++ }); v != nil || ok || calls != 1 {
		t.Error(v, ok, calls)
	}
	if v, ok := Try(nil); v != nil || ok {
		t.Error(v, ok)
	}
	if v, ok := Try(func() { escaped(panics(5)) }); v != nil || ok {
		t.Error("a panic that f caught is told", v, ok)
	}
}

func TestTryOfWhatCannotBeCompared(t *testing.T) {
	v, ok := Try(panics([]int{1, 2}))
	if l, is := v.([]int); !ok || !is || !slices.Equal(l, []int{1, 2}) {
		t.Error(v, ok)
	}
	v, ok = Try(panics(map[string]int{"a": 1}))
	if m, is := v.(map[string]int); !ok || !is || m["a"] != 1 {
		t.Error(v, ok)
	}
}

func TestTryOfFaults(t *testing.T) {
	for name, f := range faults() {
		v, ok := Try(f)
		if _, is := v.(runtime.Error); !ok || !is {
			t.Errorf("%s: %#v %v", name, v, ok)
		}
	}
	v, ok := Try(panics(nil))
	if _, is := v.(*runtime.PanicNilError); !ok || !is {
		t.Errorf("%#v %v", v, ok)
	}
}

func TestTryTellsTheLastPanic(t *testing.T) {
	v, ok := Try(func() {
		defer panics(2)()
		panic(1)
	})
	if v != 2 || !ok {
		t.Error(v, ok)
	}
	var inner any
	v, ok = Try(func() {
		inner, _ = Try(panics(1))
		panic(2)
	})
	if inner != 1 || v != 2 || !ok {
		t.Error(inner, v, ok)
	}
}

func TestTryKeepsWhatFDid(t *testing.T) {
	s := ""
	Try(func() {
		defer func() { s += "b" }()
		s += "a"
		panic(1)
	})
	if s != "ab" {
		t.Error(s)
	}
}

// 2.1 Only

// caughtAs checks that Only[T] catches x, and tells it as a T.
func caughtAs[T any](t *testing.T, x any) {
	t.Helper()
	v, ok := Only[T](panics(x))
	if any(v) != x || !ok {
		t.Errorf("%#v: %#v %v", x, v, ok)
	}
}

// goesPast checks that Only[T] lets x go on, and nothing comes back.
func goesPast[T any](t *testing.T, x any) {
	t.Helper()
	back := false
	v := escaped(func() {
		Only[T](panics(x))
		back = true
	})
	if v != x || back {
		t.Errorf("%#v: %#v %v", x, v, back)
	}
}

// noneOf checks that Only[T] of what goes well is T's zero value.
func noneOf[T comparable](t *testing.T) {
	t.Helper()
	var zero T
	calls := 0
	for _, f := range []func(){nil, func() { calls++ }} {
		if v, ok := Only[T](f); v != zero || ok {
			t.Errorf("%#v %v", v, ok)
		}
	}
	if calls != 1 {
		t.Error(calls)
	}
}

func TestOnlyCatchesItsType(t *testing.T) {
	n := 5
	caughtAs[int](t, 5)
	caughtAs[int](t, 0)
	caughtAs[string](t, "")
	caughtAs[string](t, "x")
	caughtAs[bool](t, false)
	caughtAs[number](t, number(5))
	caughtAs[plain](t, plain{1, 2})
	caughtAs[*int](t, &n)
	caughtAs[*int](t, (*int)(nil))
	caughtAs[api.Errno](t, api.OK)
	caughtAs[nvm.Lost](t, nvm.Lost{})
	caughtAs[nvm.Wrong](t, nvm.Wrong{Word: -1})
	caughtAs[error](t, api.ErrFull)
	caughtAs[error](t, wrapper{api.ErrFull})
	caughtAs[texter](t, texted{"x"})
	for _, x := range values() {
		caughtAs[any](t, x)
	}
}

func TestOnlyLetsOthersGoOn(t *testing.T) {
	n := 5
	goesPast[string](t, 5)
	goesPast[int](t, number(5))
	goesPast[number](t, 5)
	goesPast[int](t, int64(5))
	goesPast[int](t, api.ErrArg)
	goesPast[int](t, &n)
	goesPast[*int](t, 5)
	goesPast[plain](t, &plain{1, 2})
	goesPast[error](t, "x")
	goesPast[error](t, nvm.Lost{})
	goesPast[texter](t, "x")
	goesPast[texter](t, api.ErrFull)
	goesPast[api.Errno](t, wrapper{api.ErrFull})
	goesPast[nvm.Lost](t, nvm.Wrong{Word: 1})
	goesPast[nvm.Wrong](t, nvm.Lost{})
}

func TestOnlyOfWhatGoesWell(t *testing.T) {
	noneOf[int](t)
	noneOf[string](t)
	noneOf[plain](t)
	noneOf[*plain](t)
	noneOf[error](t)
	noneOf[any](t)
	noneOf[api.Errno](t)
}

func TestOnlyOfFaults(t *testing.T) {
	for name, f := range faults() {
		if v, ok := Only[runtime.Error](f); v == nil || !ok {
			t.Error(name, v, ok)
		}
		if _, is := escaped(func() { Only[string](f) }).(runtime.Error); !is {
			t.Error(name, "does not go on")
		}
	}
	if v, ok := Only[*runtime.PanicNilError](panics(nil)); v == nil || !ok {
		t.Error(v, ok)
	}
}

func TestOnlyWithinOnly(t *testing.T) {
	behind := false
	v, ok := Only[int](func() {
		Only[string](panics(5))
		behind = true
	})
	if v != 5 || !ok || behind {
		t.Error(v, ok, behind)
	}
	s, ok := Only[string](func() {
		Only[string](panics("in"))
		panic("out")
	})
	if s != "out" || !ok {
		t.Error(s, ok)
	}
}

// 2.1 Errno

func TestErrnoTellsErrnos(t *testing.T) {
	for _, e := range []api.Errno{api.OK, api.ErrArg, api.ErrTorn, api.ErrDead, api.ErrFull, api.ErrMany, -1, 999} {
		if got := Errno(panics(e)); got != e {
			t.Error(e, got)
		}
	}
	calls := 0
	if e := Errno(func() { calls++ }); e != api.OK || calls != 1 {
		t.Error(e, calls)
	}
	if e := Errno(nil); e != api.OK {
		t.Error(e)
	}
}

func TestErrnoLetsOthersGoOn(t *testing.T) {
	full := api.ErrFull
	for _, x := range append(values(), 60, &full, error(wrapper{full})) {
		if _, is := x.(api.Errno); is {
			continue
		}
		if v := escaped(func() { Errno(panics(x)) }); v != x {
			t.Errorf("%#v: %#v", x, v)
		}
	}
	for name, f := range faults() {
		if _, is := escaped(func() { Errno(f) }).(runtime.Error); !is {
			t.Error(name, "does not go on")
		}
	}
}

// 2.2 Finally

func TestFinallyCallsBothInOrder(t *testing.T) {
	s := ""
	add := func(c string) func() { return func() { s += c } }
	bad := func(c string) func() { return func() { s += c; panic(c) } }
	for _, c := range []struct {
		f, g   func()
		called string
		out    any
	}{
		{add("f"), add("g"), "fg", nil},
		{bad("f"), add("g"), "fg", "f"},
		{add("f"), bad("g"), "fg", "g"},
		{bad("f"), bad("g"), "fg", "g"},
		{nil, add("g"), "g", nil},
		{nil, bad("g"), "g", "g"},
		{add("f"), nil, "f", nil},
		{bad("f"), nil, "f", "f"},
		{nil, nil, "", nil},
	} {
		s = ""
		if v := escaped(func() { Finally(c.f, c.g) }); v != c.out || s != c.called {
			t.Error(c.called, c.out, s, v)
		}
	}
}

func TestFinallyLetsThePanicGoOnWhateverGDoes(t *testing.T) {
	for name, g := range map[string]func(){
		"recover":          func() { recover() },
		"deferred recover": func() { defer func() { recover() }() },
		"caught panic":     func() { escaped(panics(7)) },
		"Try":              func() { Try(panics(7)) },
		"Try of nothing":   func() { Try(nil) },
		"Finally":          func() { Finally(func() { recover() }, func() { recover() }) },
		"Only":             func() { Only[any](nil) },
		"Each":             func() { Each([]func(){nil, panics(7)}) },
		"Again":            func() { Again(panics(7), 3) },
	} {
		if v := escaped(func() { Finally(panics(5), g) }); v != 5 {
			t.Error(name, v)
		}
	}
}

func TestFinallyWithinFinally(t *testing.T) {
	s := ""
	add := func(c string) func() { return func() { s += c } }
	v := escaped(func() {
		Finally(func() { Finally(panics(5), add("in ")) }, add("out"))
	})
	if v != 5 || s != "in out" {
		t.Error(v, s)
	}
}

func TestFinallyBehindAnEndedGoroutine(t *testing.T) {
	called := false
	back := apart(func() { Finally(runtime.Goexit, func() { called = true }) })
	if back || !called {
		t.Error(back, called)
	}
}

// 2.2 Each

func TestEachStopsAtTheFirstPanic(t *testing.T) {
	const n = 5
	for at := range n + 1 {
		for _, x := range values() {
			var called []int
			l := make([]func(), n)
			for i := range l {
				l[i] = func() {
					called = append(called, i)
					if i >= at {
						panic(x)
					}
				}
			}
			done, v := Each(l)
			want, last := x, at
			if at == n {
				want, last = nil, n-1
			}
			if done != at || v != want {
				t.Errorf("%d %#v: %d %#v", at, x, done, v)
			}
			for i := range called {
				if called[i] != i {
					t.Error(at, called)
				}
			}
			if len(called) != last+1 {
				t.Error(at, called)
			}
		}
	}
}

func TestEachOfNothing(t *testing.T) {
	for _, l := range [][]func(){nil, {}} {
		if n, v := Each(l); n != 0 || v != nil {
			t.Error(n, v)
		}
	}
	if n, v := Each([]func(){nil, nil, nil}); n != 3 || v != nil {
		t.Error(n, v)
	}
	if n, v := Each([]func(){nil, panics("x"), nil}); n != 1 || v != "x" {
		t.Error(n, v)
	}
}

func TestEachTellsAPanicWithNil(t *testing.T) {
	calls := 0
	n, v := Each([]func(){nil, panics(nil), func() { calls++ }})
	if _, is := v.(*runtime.PanicNilError); n != 1 || !is || calls != 0 {
		t.Errorf("%d %#v %d", n, v, calls)
	}
}

func TestEachLeavesItsListAlone(t *testing.T) {
	calls := 0
	whole := []func(){func() { calls++ }, nil, panics(1), func() { calls += 10 }}
	for range 2 {
		Each(whole[:2])
		Each(whole)
	}
	if calls != 4 || whole[1] != nil || escaped(whole[2]) != 1 {
		t.Error(calls)
	}
	if whole[3](); calls != 14 {
		t.Error(calls)
	}
}

// 2.2 Again

func TestAgainUntilItGoesWell(t *testing.T) {
	for well := 1; well <= 6; well++ {
		for _, n := range []int{math.MinInt, -1, 0, 1, 2, 3, 4, 5, 6, 7, 100, math.MaxInt} {
			calls := 0
			tries, ok := Again(func() {
				if calls++; calls < well {
					panic(calls)
				}
			}, n)
			most := max(n, 1)
			if tries != min(well, most) || tries != calls || ok != (well <= most) {
				t.Error(well, n, tries, calls, ok)
			}
		}
	}
}

func TestAgainNeverGoesWell(t *testing.T) {
	for _, x := range append(values(), nil) {
		for _, c := range []struct{ n, tries int }{{math.MinInt, 1}, {-1, 1}, {0, 1}, {1, 1}, {2, 2}, {50, 50}} {
			calls := 0
			tries, ok := Again(func() { calls++; panic(x) }, c.n)
			if tries != c.tries || calls != c.tries || ok {
				t.Error(x, c, tries, calls, ok)
			}
		}
	}
}

func TestAgainOfNothing(t *testing.T) {
	for _, n := range []int{math.MinInt, -1, 0, 1, 2, math.MaxInt} {
		if tries, ok := Again(nil, n); tries != 1 || !ok {
			t.Error(n, tries, ok)
		}
	}
}

// 2.3

func TestWhatGoesOnIsTheSame(t *testing.T) {
	type box struct{ n int }
	p := &box{1}
	for name, f := range map[string]func(){
		"Only":    func() { Only[box](panics(p)) },
		"Errno":   func() { Errno(panics(p)) },
		"Finally": func() { Finally(panics(p), func() {}) },
		"all": func() {
			Finally(func() {
				Only[string](func() { Errno(func() { Finally(panics(p), nil) }) })
			}, nil)
		},
	} {
		if v := escaped(f); v != p {
			t.Errorf("%s: %#v", name, v)
		}
	}
}

func TestAPanicWithNilGoesOnAsItIs(t *testing.T) {
	for name, let := range map[string]func(f func()){
		"Only":    func(f func()) { Only[int](f) },
		"Errno":   func(f func()) { Errno(f) },
		"Finally": func(f func()) { Finally(f, func() {}) },
	} {
		v := escaped(func() { let(panics(nil)) })
		p, is := v.(*runtime.PanicNilError)
		if !is {
			t.Errorf("%s: %#v", name, v)
		}
		if again := escaped(func() { let(panics(p)) }); again != p {
			t.Errorf("%s: %#v", name, again)
		}
	}
}

func TestAPanicUnderWayIsLeftAlone(t *testing.T) {
	for name, deferred := range map[string]func(){
		"Try":            func() { Try(nil) },
		"Try of a panic": func() { Try(panics(7)) },
		"Only":           func() { Only[any](nil) },
		"Errno":          func() { Errno(nil) },
		"Finally":        func() { Finally(nil, nil) },
		"Each":           func() { Each([]func(){nil}) },
		"Again":          func() { Again(nil, 1) },
	} {
		if v := escaped(func() { defer deferred(); panic(5) }); v != 5 {
			t.Error(name, v)
		}
	}
	if v := escaped(func() { defer Try(nil); panic(5) }); v != 5 {
		t.Error(v)
	}
	if v := escaped(func() { defer Finally(nil, func() { recover() }); panic(5) }); v != 5 {
		t.Error(v)
	}
}

// 2.4

func TestCallsEndWithAnEndedGoroutine(t *testing.T) {
	for name, f := range map[string]func(){
		"Try":     func() { Try(runtime.Goexit) },
		"Only":    func() { Only[any](runtime.Goexit) },
		"Errno":   func() { Errno(runtime.Goexit) },
		"Finally": func() { Finally(nil, runtime.Goexit) },
		"Each":    func() { Each([]func(){runtime.Goexit, nil}) },
		"Again":   func() { Again(runtime.Goexit, math.MaxInt) },
	} {
		if apart(f) {
			t.Error(name, "came back")
		}
	}
}

func TestCallsWithinCallsEnd(t *testing.T) {
	calls := 0
	var deep func(n int)
	deep = func(n int) {
		calls++
		if n == 0 {
			panic(api.ErrFull)
		}
		Finally(func() { Only[string](func() { deep(n - 1) }) }, func() { calls++ })
	}
	if e := Errno(func() { deep(200) }); e != api.ErrFull || calls != 401 {
		t.Error(e, calls)
	}
	tries, ok := Again(func() {
		if n, _ := Each([]func(){nil, func() { deep(3) }}); n == 1 {
			panic(n)
		}
	}, 1000)
	if tries != 1000 || ok {
		t.Error(tries, ok)
	}
}

// The device's panics are what this layer is for: they are caught, or go on, by their types.
func TestPanicsOfADevice(t *testing.T) {
	d, e := nvm.New(8)
	if e != api.OK {
		t.Fatal(e)
	}
	if w, ok := Only[nvm.Wrong](func() { d.Load(8) }); w.Word != 8 || !ok {
		t.Error(w, ok)
	}
	d.Fuse(0)
	if v := escaped(func() { Errno(func() { d.Store(0, 1) }) }); v != (nvm.Lost{}) {
		t.Error(v)
	}
	if _, ok := Only[nvm.Lost](func() { d.Fence() }); !ok {
		t.Error("Lost is not caught")
	}
	tries, ok := Again(func() {
		Finally(func() { d.Load(0) }, func() { d.Power(false, nil) })
	}, 5)
	if tries != 2 || !ok {
		t.Error(tries, ok)
	}
}
