package redo

import (
	"math"
	"math/rand"
	"slices"
	"testing"

	"reliquary/api"
	"reliquary/nvm"
)

// panicked is what f panics with; nil if it does not.
func panicked(f func()) (v any) {
	defer func() { v = recover() }()
	f()
	return nil
}

// lost tells whether f found the power gone; any other panic goes on.
func lost(f func()) bool {
	v := panicked(f)
	if v != nil && v != (nvm.Lost{}) {
		panic(v)
	}
	return v != nil
}

func device(t *testing.T, words int) *nvm.Device {
	t.Helper()
	d, e := nvm.New(words)
	if e != api.OK {
		t.Fatal("New", words, e)
	}
	return d
}

func opened(t *testing.T, d *nvm.Device, at, words int) *Log {
	t.Helper()
	l, e := Open(d, at, words)
	if e != api.OK || l == nil {
		t.Fatal("Open", at, words, e)
	}
	return l
}

func commit(t *testing.T, l *Log, w ...Write) {
	t.Helper()
	if e := l.Commit(w); e != api.OK {
		t.Fatal("Commit", w, e)
	}
}

// die lets the power go.
func die(d *nvm.Device) {
	d.Fuse(0)
	panicked(d.Fence)
}

// storeLasting writes a word by hand, past all logs.
func storeLasting(d *nvm.Device, i int, v uint64) {
	d.Store(i, v)
	d.Flush(i)
	d.Fence()
}

func reading(d *nvm.Device) []uint64 {
	l := make([]uint64, d.Words())
	for i := range l {
		l[i] = d.Load(i)
	}
	return l
}

// lasting is what a loss of power would leave.
func lasting(d *nvm.Device) []uint64 {
	c := d.Copy()
	c.Power(false, nil)
	return reading(c)
}

// beside is a reading of a device with the words of a log left out of account.
func beside(l []uint64, at, words int) []uint64 {
	l = slices.Clone(l)
	clear(l[at : at+words])
	return l
}

// done is what a reading is when w is done.
func done(l []uint64, w []Write) []uint64 {
	l = slices.Clone(l)
	for _, x := range w {
		l[x.Word] = x.V
	}
	return l
}

// keeps are the sets of words that a loss of power is tried with: all there are of few words; of many words none, all, each alone, all but each, and some by lot.
func keeps(waiting []int) [][]int {
	var sets [][]int
	if len(waiting) <= 6 {
		for m := range 1 << len(waiting) {
			sets = append(sets, chosen(waiting, func(k int) bool { return m>>k&1 == 1 }))
		}
		return sets
	}
	r := rand.New(rand.NewSource(int64(len(waiting))))
	sets = append(sets, nil, waiting)
	for i := range waiting {
		sets = append(sets, chosen(waiting, func(k int) bool { return k == i }), chosen(waiting, func(k int) bool { return k != i }))
	}
	for range 8 {
		sets = append(sets, chosen(waiting, func(int) bool { return r.Intn(2) == 0 }))
	}
	return sets
}

func chosen(l []int, in func(k int) bool) []int {
	var out []int
	for k, x := range l {
		if in(k) {
			out = append(out, x)
		}
	}
	return out
}

// eachLoss calls f on a copy of d for each way in which its power may come back.
func eachLoss(d *nvm.Device, f func(c *nvm.Device)) {
	for _, l := range keeps(d.Waiting()) {
		c := d.Copy()
		c.Power(false, l)
		f(c)
	}
}

// eachStep calls act on copies of d, which lose their power at each step of it, and f with each way in which it comes back; at last act goes through, and whole is told that copy.
func eachStep(d *nvm.Device, act func(c *nvm.Device), f, whole func(c *nvm.Device)) {
	for k := 0; ; k++ {
		c := d.Copy()
		c.Fuse(k)
		if !lost(func() { act(c) }) {
			c.Fuse(-1)
			whole(c)
			return
		}
		eachLoss(c, f)
	}
}

// 6.1

func TestNeed(t *testing.T) {
	for _, c := range [][2]int{
		{math.MinInt, 16}, {-5, 16}, {-1, 16}, {0, 16}, {1, 18}, {2, 20}, {3, 22}, {4, 24}, {12, 40},
		{api.MaxWrites, 12304}, {32760, 65536}, {1 << 30, 1<<31 + 16}, {1 << 40, 1<<41 + 16},
		{math.MaxInt/2 - 8, math.MaxInt - 1}, {math.MaxInt/2 - 7, math.MaxInt}, {1 << 62, math.MaxInt}, {math.MaxInt, math.MaxInt},
	} {
		if n := Need(c[0]); n != c[1] {
			t.Error(c, n)
		}
	}
}

func TestOpenBounds(t *testing.T) {
	d := device(t, 96)
	dead := device(t, 96)
	die(dead)
	for _, c := range [][2]int{
		{math.MinInt, 40}, {-8, 40}, {-1, 40}, {1, 40}, {4, 40}, {7, 16}, {9, 16}, {12, 16},
		{0, math.MinInt}, {0, -1}, {0, 0}, {0, 8}, {8, 15}, {0, 97}, {8, 89}, {64, 40}, {80, 17}, {88, 16}, {96, 16}, {104, 16},
		{96, 0}, {8, 1 << 62}, {8, math.MaxInt}, {math.MaxInt - 7, 16}, {math.MaxInt - 7, math.MaxInt}, {math.MinInt, math.MinInt},
	} {
		for _, d := range []*nvm.Device{d, dead, nil} {
			if l, e := Open(d, c[0], c[1]); l != nil || e != api.ErrArg {
				t.Error(c, e)
			}
		}
	}
	for _, c := range [][2]int{{0, 16}, {0, 96}, {0, 17}, {8, 88}, {8, 87}, {72, 24}, {80, 16}, {40, 31}} {
		if l := opened(t, d, c[0], c[1]); l.Most() != (c[1]-16)/2 {
			t.Error(c, l.Most())
		}
		if l, e := Open(nil, c[0], c[1]); l != nil || e != api.ErrArg {
			t.Error(c, e)
		}
	}
	if d.Steps() != 0 || !slices.Equal(reading(d), make([]uint64, 96)) {
		t.Error("Open changed what stands", d.Steps(), reading(d))
	}
}

func TestMostIsTheMostThatNeedAllows(t *testing.T) {
	d := device(t, 65536)
	for _, at := range []int{0, 8, 32768} {
		for words := 16; words <= d.Words()-at; words += 1 + words/50 {
			n := opened(t, d, at, words).Most()
			if n < 0 || Need(n) > words || Need(n+1) <= words {
				t.Fatal(at, words, n)
			}
		}
	}
	if n := opened(t, d, 0, Need(api.MaxWrites)).Most(); n != api.MaxWrites {
		t.Error(n)
	}
}

func TestOpenOfWhatIsHomeChangesNothing(t *testing.T) {
	d := device(t, 96)
	l := opened(t, d, 8, 40)
	commit(t, l, Write{0, 1}, Write{50, 2})
	was, steps := reading(d), d.Steps()
	for range 3 {
		opened(t, d, 8, 40)
	}
	if !slices.Equal(reading(d), was) || d.Steps() != steps {
		t.Error(reading(d), d.Steps(), steps)
	}
	storeLasting(d, 0, 7)
	d.Power(false, nil)
	opened(t, d, 8, 40)
	if d.Load(0) != 7 || d.Load(50) != 2 {
		t.Error("an older Commit was done again", d.Load(0), d.Load(50))
	}
}

// 6.2

func TestCommitDoesAllAndItLasts(t *testing.T) {
	for _, c := range []struct{ words, at, own int }{{96, 8, 40}, {96, 0, 24}, {96, 72, 24}, {96, 16, 25}, {96, 32, 31}, {48, 16, 18}, {4096, 1024, 2048}} {
		d := device(t, c.words)
		l := opened(t, d, c.at, c.own)
		want := reading(d)
		r := rand.New(rand.NewSource(6))
		for range 40 {
			w := make([]Write, r.Intn(l.Most()+1))
			for k := range w {
				w[k] = Write{homeWord(r, c.words, c.at, c.own), r.Uint64()}
			}
			commit(t, l, w...)
			want = done(want, w)
			if got := beside(reading(d), c.at, c.own); !slices.Equal(got, want) {
				t.Fatal(c, w, got, want)
			}
			if got := beside(lasting(d), c.at, c.own); !slices.Equal(got, want) || len(d.Waiting()) > 0 {
				t.Fatal("does not last", c, w, got, want)
			}
		}
	}
}

// homeWord is some word that is none of the log's.
func homeWord(r *rand.Rand, words, at, own int) int {
	i := r.Intn(words - own)
	if i >= at {
		i += own
	}
	return i
}

func TestTheLaterOfOneWordHolds(t *testing.T) {
	for _, w := range [][]Write{
		{{0, 1}, {0, 2}},
		{{0, 1}, {1, 5}, {0, 2}},
		{{0, 2}, {0, 1}, {0, 2}},
		{{0, 3}, {0, 2}, {1, 5}, {1, 6}, {0, 0}},
		{{0, 9}, {0, 9}, {0, 9}, {0, 9}, {0, 9}, {0, 0}},
		{{95, math.MaxUint64}, {0, 1}, {95, 0}},
	} {
		d := device(t, 96)
		l := opened(t, d, 8, 40)
		commit(t, l, Write{0, 77}, Write{95, 77})
		want := done(beside(reading(d), 8, 40), w)
		commit(t, l, w...)
		if got := beside(reading(d), 8, 40); !slices.Equal(got, want) {
			t.Error(w, got)
		}
	}
}

func TestCommitErrors(t *testing.T) {
	d := device(t, 96)
	l := opened(t, d, 8, 41)
	commit(t, l, Write{0, 1}, Write{7, 2}, Write{49, 3}, Write{95, 4})
	was, steps := reading(d), d.Steps()
	many := make([]Write, 13)
	for k := range many {
		many[k] = Write{50 + k, 9}
	}
	alike := make([]Write, 13)
	cases := []struct {
		w []Write
		e api.Errno
	}{{many, api.ErrBig}, {alike, api.ErrBig}, {slices.Repeat(many, 1000), api.ErrBig}}
	for _, i := range []int{math.MinInt, -96, -8, -1, 8, 9, 16, 23, 40, 47, 48, 96, 97, 65536, math.MaxInt} {
		for at := range 5 {
			w := slices.Insert([]Write{{0, 9}, {7, 9}, {49, 9}, {95, 9}}, at, Write{i, 9})
			cases = append(cases, struct {
				w []Write
				e api.Errno
			}{w, api.ErrArg})
		}
		cases = append(cases, struct {
			w []Write
			e api.Errno
		}{append(slices.Clone(many), Write{i, 9}), api.ErrArg})
	}
	for _, dead := range []bool{false, true} {
		c := d.Copy()
		l := opened(t, c, 8, 41)
		if dead {
			die(c)
		}
		for _, x := range cases {
			if e := l.Commit(x.w); e != x.e {
				t.Error(dead, x.w, e)
			}
		}
		c.Power(true, nil)
		if c.Steps() != steps || !slices.Equal(reading(c), was) {
			t.Error("a refused Commit changed something", dead)
		}
	}
	commit(t, l, many[:12]...)
	commit(t, l, alike[:12]...)
	if d.Load(61) != 9 || d.Load(0) != 0 {
		t.Error(d.Load(61), d.Load(0))
	}
}

func TestCommitOfNone(t *testing.T) {
	d := device(t, 96)
	l, small := opened(t, d, 8, 40), opened(t, d, 48, 17)
	commit(t, l, Write{0, 1})
	was, steps := reading(d), d.Steps()
	for _, w := range [][]Write{nil, {}} {
		commit(t, l, w...)
		commit(t, small, w...)
	}
	if e := small.Commit([]Write{{0, 2}}); e != api.ErrBig || small.Most() != 0 {
		t.Error(e, small.Most())
	}
	if !slices.Equal(reading(d), was) || d.Steps() != steps {
		t.Error(reading(d), d.Steps())
	}
	die(d)
	commit(t, l)
}

func TestTheGreatestCommits(t *testing.T) {
	for _, c := range []struct{ words, at, own int }{{65536, 0, Need(api.MaxWrites)}, {65536, 32768, 32768}, {65536, 8, 43704}, {40, 0, 26}, {40, 8, 27}} {
		d := device(t, c.words)
		l := opened(t, d, c.at, c.own)
		var w []Write
		for i := 0; len(w) < l.Most(); i = (i + 7) % c.words {
			if i < c.at || i >= c.at+c.own {
				w = append(w, Write{i, uint64(len(w)) + 1})
			}
		}
		want := done(reading(d), w)
		commit(t, l, w...)
		if !slices.Equal(beside(lasting(d), c.at, c.own), want) {
			t.Error(c)
		}
		if e := l.Commit(append(w, w[0])); e != api.ErrBig {
			t.Error(c, e)
		}
	}
}

func TestPanicsAsTheDeviceDoes(t *testing.T) {
	d := device(t, 96)
	l := opened(t, d, 8, 40)
	w := []Write{{0, 1}, {60, 2}}
	for k := range 10 {
		c := d.Copy()
		l := opened(t, c, 8, 40)
		c.Fuse(k)
		if v := panicked(func() { l.Commit(w) }); v != (nvm.Lost{}) {
			t.Error(k, v)
		}
	}
	die(d)
	if v := panicked(func() { l.Commit(w) }); v != (nvm.Lost{}) {
		t.Error(v)
	}
	if v := panicked(func() { Open(d, 8, 40) }); v != (nvm.Lost{}) {
		t.Error(v)
	}
	d.Power(false, nil)
	if l := opened(t, d, 8, 40); l.Commit(w) != api.OK || d.Load(60) != 2 {
		t.Error(d.Load(60))
	}
}

func TestLogsBesideEachOther(t *testing.T) {
	d := device(t, 96)
	a, b := opened(t, d, 8, 25), opened(t, d, 40, 30)
	commit(t, a, Write{0, 1}, Write{33, 1}, Write{70, 1}, Write{39, 1})
	commit(t, b, Write{0, 2}, Write{34, 2}, Write{70, 2})
	want := beside(done(make([]uint64, 96), []Write{{0, 2}, {33, 1}, {39, 1}, {34, 2}, {70, 2}}), 8, 25)
	check := func(c *nvm.Device) {
		t.Helper()
		if got := beside(beside(reading(c), 8, 25), 40, 30); !slices.Equal(got, want) {
			t.Fatal(got)
		}
	}
	check(d)
	d.Power(false, nil)
	opened(t, d, 8, 25)
	check(d)
	opened(t, d, 40, 30)
	check(d)
}

// A loss in one log's Commit is no loss of the other one's, in whatever order they are opened again.
func TestALossBesideAnotherLog(t *testing.T) {
	d := device(t, 96)
	a, b := opened(t, d, 8, 25), opened(t, d, 40, 30)
	commit(t, a, Write{0, 1}, Write{33, 1}, Write{72, 1})
	commit(t, b, Write{0, 2}, Write{34, 2}, Write{71, 2})
	logs := [][2]int{{8, 25}, {40, 30}}
	own := func(l []uint64) []uint64 { return beside(beside(l, 8, 25), 40, 30) }
	for k, w := range [][]Write{{{0, 3}, {33, 3}, {35, 3}, {72, 3}}, {{34, 4}, {0, 4}, {35, 4}, {0, 5}, {95, 4}}} {
		was := own(reading(d))
		for _, first := range []int{0, 1} {
			eachStep(d, func(c *nvm.Device) {
				opened(t, c, logs[k][0], logs[k][1]).Commit(w)
			}, func(c *nvm.Device) {
				opened(t, c, logs[first][0], logs[first][1])
				opened(t, c, logs[1-first][0], logs[1-first][1])
				if got := own(lasting(c)); !slices.Equal(got, was) && !slices.Equal(got, done(was, w)) {
					t.Fatal(k, first, got, was)
				}
			}, func(c *nvm.Device) {})
		}
		commit(t, []*Log{a, b}[k], w...)
	}
}

// 6.3

// plans are commits one after the other, each through a log in another place, with words beside it and in the lines of its ends.
var plans = []struct {
	words, at, own int
	commits        [][]Write
}{
	{24, 0, 18, [][]Write{{{18, 1}}, {{18, 2}}, {{23, 3}}}},
	{40, 8, 20, [][]Write{{{0, 1}, {39, 1}}, {{28, 2}}, {{28, 3}, {7, 3}}, {{39, 0}, {39, 4}}}},
	{96, 8, 40, [][]Write{
		{{0, 1}, {48, 1}, {95, 1}, {56, 1}, {64, 1}, {49, 1}, {50, 1}, {0, 9}},
		{{0, 2}},
		{{7, 3}, {48, 3}, {88, 3}, {7, 4}, {7, 5}, {95, 0}, {48, 0}, {1, 3}, {2, 3}, {3, 3}, {4, 3}, {80, 3}},
		{{0, 4}, {95, 4}, {72, 4}},
	}},
	{64, 32, 31, [][]Write{{{63, 1}, {31, 1}, {0, 1}}, {{63, 2}, {31, 2}, {8, 2}, {16, 2}}, {{63, math.MaxUint64}, {0, 48}, {1, 32}, {2, 63}}}},
}

// before tells what stands beside a plan's log behind its first n commits.
func before(k, n int) []uint64 {
	l := make([]uint64, plans[k].words)
	for _, w := range plans[k].commits[:n] {
		l = done(l, w)
	}
	return l
}

// isOneOf checks that c, whose log is opened again, is as behind n commits, or behind n + 1: now, and if the power goes once more.
func isOneOf(t *testing.T, c *nvm.Device, k, n int) {
	t.Helper()
	p := plans[k]
	opened(t, c, p.at, p.own)
	now := beside(reading(c), p.at, p.own)
	if !slices.Equal(now, before(k, n)) && !slices.Equal(now, before(k, n+1)) {
		t.Fatal(k, n, now)
	}
	if l := beside(lasting(c), p.at, p.own); !slices.Equal(l, now) {
		t.Fatal("does not last", k, n, l, now)
	}
}

func TestALossAtEachStepOfACommit(t *testing.T) {
	for k, p := range plans {
		d := device(t, p.words)
		for n, w := range p.commits {
			losses := 0
			eachStep(d, func(c *nvm.Device) {
				opened(t, c, p.at, p.own).Commit(w)
			}, func(c *nvm.Device) {
				losses++
				isOneOf(t, c, k, n)
			}, func(c *nvm.Device) {
				eachLoss(c, func(c *nvm.Device) {
					opened(t, c, p.at, p.own)
					if got := beside(reading(c), p.at, p.own); !slices.Equal(got, before(k, n+1)) {
						t.Fatal("a Commit that came back is gone", k, n, got)
					}
				})
				d = c
			})
			if losses < 12 {
				t.Error(k, n, losses)
			}
		}
	}
}

// In Open, and again in the Open behind that.
func TestLossesInOpen(t *testing.T) {
	inOpen := 0
	for k, p := range plans[:2] {
		open := func(c *nvm.Device) { opened(t, c, p.at, p.own) }
		check := func(n int) func(c *nvm.Device) {
			return func(c *nvm.Device) {
				inOpen++
				isOneOf(t, c, k, n)
			}
		}
		d := device(t, p.words)
		for n, w := range p.commits {
			eachStep(d, func(c *nvm.Device) {
				opened(t, c, p.at, p.own).Commit(w)
			}, func(c *nvm.Device) {
				eachStep(c, open, func(c *nvm.Device) {
					eachStep(c, open, check(n), check(n))
				}, check(n))
			}, func(c *nvm.Device) { d = c })
		}
	}
	if inOpen < 10000 {
		t.Error("few losses", inOpen)
	}
}

// Once it is settled what stands, no later loss brings it back.
func TestWhatIsSettledStays(t *testing.T) {
	for k, p := range plans[:2] {
		d := device(t, p.words)
		for n, w := range p.commits {
			eachStep(d, func(c *nvm.Device) {
				opened(t, c, p.at, p.own).Commit(w)
			}, func(c *nvm.Device) {
				l := opened(t, c, p.at, p.own)
				by := []Write{{w[0].Word, 1000}, {p.words - 1, 1001}}
				want := done(beside(reading(c), p.at, p.own), by)
				for _, x := range by {
					commit(t, l, x)
				}
				storeLasting(c, p.words-2, 1002)
				want[p.words-2] = 1002
				c.Power(false, nil)
				opened(t, c, p.at, p.own)
				if got := beside(reading(c), p.at, p.own); !slices.Equal(got, want) {
					t.Fatal(k, n, got, want)
				}
			}, func(c *nvm.Device) { d = c })
		}
	}
}

// Many commits with losses in between, against a list of what must stand.
func TestLongRuns(t *testing.T) {
	for seed := range int64(60) {
		r := rand.New(rand.NewSource(seed))
		words := 8 * (6 + r.Intn(20))
		own := 18 + r.Intn(words-34)
		at := 8 * r.Intn((words-own)/8+1)
		d := device(t, words)
		want := reading(d)
		l := opened(t, d, at, own)
		for range 60 {
			w := make([]Write, r.Intn(l.Most()+1))
			for k := range w {
				w[k] = Write{homeWord(r, words, at, own), r.Uint64() >> r.Intn(64)}
			}
			d.Fuse(r.Intn(8 * (len(w) + 2)))
			if !lost(func() { l.Commit(w) }) {
				want, w = done(want, w), nil
			}
			for d.Dead() || r.Intn(4) == 0 {
				d.Power(r.Intn(2) == 0, chosen(d.Waiting(), func(int) bool { return r.Intn(3) == 0 }))
				d.Fuse(r.Intn(4 * own))
				lost(func() { l = opened(t, d, at, own) })
			}
			got := beside(reading(d), at, own)
			if !slices.Equal(got, want) && !slices.Equal(got, done(want, w)) {
				t.Fatal(seed, got, want, w)
			}
			want = got
		}
	}
}

// 6.4

// As long as it is open whether a Commit is done, one word alone decides, and all else of it has lasted.
func TestOneWordDecides(t *testing.T) {
	for k, p := range plans {
		d := device(t, p.words)
		for n, w := range p.commits {
			open := 0
			for fuse := 0; ; fuse++ {
				c := d.Copy()
				l := opened(t, c, p.at, p.own)
				c.Fuse(fuse)
				if !lost(func() { l.Commit(w) }) {
					break
				}
				outcomes := map[bool]int{}
				eachLoss(c, func(c *nvm.Device) {
					opened(t, c, p.at, p.own)
					outcomes[slices.Equal(beside(reading(c), p.at, p.own), before(k, n+1))]++
				})
				if len(outcomes) == 2 {
					open++
					if len(c.Waiting()) != 1 {
						t.Error(k, n, fuse, c.Waiting())
					}
				}
			}
			if open == 0 {
				t.Error("nothing ever decides", k, n)
			}
			commit(t, opened(t, d, p.at, p.own), w...)
		}
	}
}

// 6.5

func TestWhatIsHandedInIsCopied(t *testing.T) {
	d := device(t, 96)
	l := opened(t, d, 8, 40)
	whole := []Write{{0, 1}, {50, 2}, {0, 3}, {60, 4}, {61, 5}}
	was := slices.Clone(whole)
	commit(t, l, whole[:3]...)
	if !slices.Equal(whole, was) {
		t.Error(whole)
	}
	clear(whole)
	d.Power(false, nil)
	opened(t, d, 8, 40)
	if d.Load(0) != 3 || d.Load(50) != 2 || d.Load(60) != 0 {
		t.Error(d.Load(0), d.Load(50), d.Load(60))
	}
}

// A log may be opened where other things stood.
func TestOpenOnForeignWords(t *testing.T) {
	r := rand.New(rand.NewSource(7))
	for name, word := range map[string]func(i int) uint64{
		"ones":    func(int) uint64 { return 1 },
		"rising":  func(i int) uint64 { return uint64(i) },
		"full":    func(int) uint64 { return math.MaxUint64 },
		"lots":    func(int) uint64 { return r.Uint64() },
		"minus":   func(i int) uint64 { return -uint64(i) },
		"small":   func(int) uint64 { return uint64(r.Intn(5)) },
		"greater": func(i int) uint64 { return uint64(i) << 32 },
	} {
		d := device(t, 96)
		for i := range 96 {
			storeLasting(d, i, uint64(1000+i))
		}
		for i := 8; i < 48; i++ {
			storeLasting(d, i, word(i))
		}
		was := reading(d)
		l := opened(t, d, 8, 40)
		if !slices.Equal(beside(reading(d), 8, 40), beside(was, 8, 40)) {
			t.Error(name, reading(d))
		}
		w := []Write{{0, 5}, {95, 6}, {0, 7}}
		eachStep(d, func(c *nvm.Device) { opened(t, c, 8, 40).Commit(w) }, func(c *nvm.Device) {
			opened(t, c, 8, 40)
			got := beside(reading(c), 8, 40)
			if !slices.Equal(got, beside(was, 8, 40)) && !slices.Equal(got, beside(done(was, w), 8, 40)) {
				t.Fatal(name, got)
			}
		}, func(c *nvm.Device) {})
		commit(t, l, w...)
	}
}

// Even where a mark stands that no Commit has put there, Open ends, panics with nothing and writes nothing; nor does the mark count later.
func TestOpenOnAForgedMark(t *testing.T) {
	for _, c := range []struct {
		n    uint64
		word uint64
	}{{0, 60}, {1, 96}, {1, math.MaxUint64}, {1, 1 << 63}, {1, 8}, {1, 16}, {1, 17}, {2, 19}, {45, 60}, {41, 7}, {counts, 60}, {40, 95}} {
		d := device(t, 96)
		for i := range 96 {
			storeLasting(d, i, 3)
		}
		storeLasting(d, 8, committed|c.n)
		storeLasting(d, 16, c.word)
		storeLasting(d, 18, c.word)
		was := reading(d)
		l := opened(t, d, 8, 40)
		if !slices.Equal(beside(reading(d), 8, 40), beside(was, 8, 40)) {
			t.Error(c, reading(d))
		}
		w := []Write{{60, 7}, {61, 8}}
		want := beside(done(was, w), 8, 40)
		eachStep(d, func(d *nvm.Device) { opened(t, d, 8, 40).Commit(w) }, func(d *nvm.Device) {
			opened(t, d, 8, 40)
			if got := beside(reading(d), 8, 40); !slices.Equal(got, beside(was, 8, 40)) && !slices.Equal(got, want) {
				t.Fatal(c, got)
			}
		}, func(*nvm.Device) {})
		commit(t, l, w...)
	}
}

// What a log of another length left at the same place is brought home all the same.
func TestOpenWithAnotherLength(t *testing.T) {
	d := device(t, 96)
	commit(t, opened(t, d, 8, 40), Write{0, 1}, Write{48, 1}, Write{63, 1})
	w := []Write{{0, 2}, {48, 2}, {50, 2}, {63, 2}, {95, 2}, {48, 3}}
	for _, words := range []int{16, 17, 24, 33, 39, 41, 64, 88} {
		eachStep(d, func(c *nvm.Device) { opened(t, c, 8, 40).Commit(w) }, func(c *nvm.Device) {
			whole := c.Copy()
			opened(t, whole, 8, 40)
			opened(t, c, 8, words)
			if !slices.Equal(beside(reading(c), 8, 40), beside(reading(whole), 8, 40)) {
				t.Fatal(words, reading(c))
			}
		}, func(*nvm.Device) {})
	}
}

func TestExample(t *testing.T) {
	if Need(4) != 24 {
		t.Error(Need(4))
	}
	if l := opened(t, device(t, 32), 0, 24); l.Most() != 4 {
		t.Error(l.Most())
	}
}
