package core

import (
	"bytes"
	"fmt"
	"maps"
	"math"
	"math/rand"
	"slices"
	"strings"
	"testing"

	"reliquary/api"
	"reliquary/calc"
	"reliquary/heap"
	"reliquary/num"
	"reliquary/nvm"
	"reliquary/tx"
)

var (
	inf   = math.Inf(1)
	minus = math.Copysign(0, -1) // minus nought
	nan   = math.NaN()
)

// model is what a state is to tell.
type model struct {
	pairs   map[string]string
	members map[string]float64
}

func newModel() model {
	return model{map[string]string{}, map[string]float64{}}
}

func (m model) clone() model {
	return model{maps.Clone(m.pairs), maps.Clone(m.members)}
}

// bytes is what all of the model counts against the half of a byte for each word.
func (m model) bytes() int {
	n := 0
	for k, v := range m.pairs {
		n += 128 + len(k) + len(v)
	}
	for name := range m.members {
		n += 128 + len(name)
	}
	return n
}

// scan is what a Scan is to tell.
func (m model) scan(lo, hi string, n int) []api.Pair {
	var l []api.Pair
	for _, k := range slices.Sorted(maps.Keys(m.pairs)) {
		if k >= lo && (hi == "" || k < hi) && len(l) < min(n, 1000) {
			l = append(l, api.Pair{Key: k, Value: []byte(m.pairs[k])})
		}
	}
	return l
}

// within are all members whose score is not below lo and not above hi, in their order.
func (m model) within(lo, hi float64) []api.Scored {
	var l []api.Scored
	for name, x := range m.members {
		if num.Cmp(x, lo) >= 0 && num.Cmp(x, hi) <= 0 {
			l = append(l, api.Scored{Name: name, Score: x})
		}
	}
	slices.SortFunc(l, func(a, b api.Scored) int {
		if c := num.Cmp(a.Score, b.Score); c != 0 {
			return c
		}
		return strings.Compare(a.Name, b.Name)
	})
	return l
}

func samePairs(a, b []api.Pair) bool {
	return slices.EqualFunc(a, b, func(a, b api.Pair) bool { return a.Key == b.Key && bytes.Equal(a.Value, b.Value) })
}

func sameScored(a, b []api.Scored) bool {
	return slices.EqualFunc(a, b, func(a, b api.Scored) bool {
		return a.Name == b.Name && math.Float64bits(a.Score) == math.Float64bits(b.Score)
	})
}

// sameSpread tells whether two are the same to the bit, but that all NaNs are one.
func sameSpread(a, b api.Spread) bool {
	return a.N == b.N && num.Same(a.Least, b.Least) && num.Same(a.Most, b.Most) && num.Same(a.Sum, b.Sum) && num.Same(a.Mean, b.Mean)
}

func spreadOf(l []api.Scored) api.Spread {
	var x []float64
	for _, m := range l {
		x = append(x, m.Score)
	}
	s := api.Spread{N: len(l)}
	s.Least, s.Most, s.Sum, s.Mean = calc.Spread(x)
	return s
}

// mustTell checks that a View tells what the model has, by each of its calls.
func mustTell(t *testing.T, v *View, m model) {
	t.Helper()
	if l, e := v.Scan("", "", 5000); !samePairs(l, m.scan("", "", 5000)) || e != api.OK {
		t.Fatalf("Scan: %.300v %v, want %.300v", l, e, m.scan("", "", 5000))
	}
	all := m.within(-inf, inf)
	if l, e := v.Range(-inf, inf, 5000); !sameScored(l, all[:min(len(all), 1000)]) || e != api.OK {
		t.Fatalf("Range: %.300v %v, want %.300v", l, e, all)
	}
	if p, n, e := v.Counts(); p != len(m.pairs) || n != len(m.members) || e != api.OK {
		t.Fatal("Counts", p, n, e, len(m.pairs), len(m.members))
	}
	if s, e := v.Spread(-inf, inf); !sameSpread(s, spreadOf(all)) || e != api.OK {
		t.Fatal("Spread", s, e, spreadOf(all))
	}
	for i, k := range slices.Sorted(maps.Keys(m.pairs)) {
		if i%9 != 0 {
			continue
		}
		if b, there, e := v.Get(k); string(b) != m.pairs[k] || !there || e != api.OK {
			t.Fatalf("Get %q: %.90q %v %v", k, b, there, e)
		}
	}
	for i, x := range all {
		if i%9 != 0 && i != len(all)-1 {
			continue
		}
		if n, there, e := v.Place(x.Name); n != i || !there || e != api.OK {
			t.Fatal("Place", x.Name, n, there, e, i)
		}
		if y, there, e := v.Score(x.Name); math.Float64bits(y) != math.Float64bits(x.Score) || !there || e != api.OK {
			t.Fatal("Score", x.Name, y, there, e, x.Score)
		}
	}
}

func mustBeSound(t *testing.T, c *Core) {
	t.Helper()
	if e := c.Check(); e != api.OK {
		t.Fatal("Check", e)
	}
}

func device(t *testing.T, words int) *nvm.Device {
	t.Helper()
	d, e := nvm.New(words)
	if e != api.OK {
		t.Fatal("New", words, e)
	}
	return d
}

func opened(t *testing.T, d *nvm.Device) *Core {
	t.Helper()
	c, e := Open(d)
	if e != api.OK {
		t.Fatal("Open", e)
	}
	return c
}

func fresh(t *testing.T, words int) (*Core, *nvm.Device) {
	t.Helper()
	d := device(t, words)
	return opened(t, d), d
}

// kill lets the power of a device go.
func kill(d *nvm.Device) {
	d.Fuse(0)
	func() {
		defer func() { recover() }()
		d.Fence()
	}()
}

// beneath is the store and the heap below a device's Core, for what no Core does.
func beneath(t *testing.T, d *nvm.Device) (*tx.Store, *heap.Heap) {
	t.Helper()
	s, e := tx.Open(d)
	if e != api.OK {
		t.Fatal(e)
	}
	h, e := heap.Open(s)
	if e != api.OK {
		t.Fatal(e)
	}
	return s, h
}

// image is what a device has kept.
func image(d *nvm.Device) []uint64 {
	l := make([]uint64, d.Words())
	for i := range l {
		l[i] = d.Load(i)
	}
	return l
}

// must checks that a call went well.
func must(t *testing.T, e api.Errno) {
	t.Helper()
	if e != api.OK {
		t.Fatal(e)
	}
}

// counted are so many bytes, none like those of another first one.
func counted(n, first int) []byte {
	b := make([]byte, n)
	for i := range b {
		b[i] = byte(first + i*7)
	}
	return b
}

// put puts into the Core and into the model.
func put(t *testing.T, c *Core, m model, key, value string) {
	t.Helper()
	must(t, c.Put(key, []byte(value)))
	m.pairs[key] = value
}

func setScore(t *testing.T, c *Core, m model, name string, x float64) {
	t.Helper()
	must(t, c.Set(name, x))
	m.members[name] = x
}

// few is a Core with some of everything: three pairs, two members, a snapshot and a pin of something else.
func few(t *testing.T) (*Core, *nvm.Device, model) {
	t.Helper()
	c, d := fresh(t, leastWords)
	m := newModel()
	put(t, c, m, "a", "old")
	if _, e := c.Snap(); e != api.OK {
		t.Fatal(e)
	}
	if _, e := c.Pin(); e != api.OK {
		t.Fatal(e)
	}
	put(t, c, m, "a", "x")
	put(t, c, m, "b", strings.Repeat("long", 200))
	put(t, c, m, "c", "")
	setScore(t, c, m, "m", minus)
	setScore(t, c, m, "n", inf)
	return c, d, m
}

// 16.1

func TestOpen(t *testing.T) {
	for words, want := range map[int]api.Errno{8: api.ErrArg, 12400: api.ErrArg, 32760: api.ErrArg, 32768: api.OK, 40000: api.OK, 65536: api.OK} {
		d := device(t, words)
		if c, e := Open(d); e != want || (c != nil) != (want == api.OK) {
			t.Error(words, c, e)
		}
		kill(d)
		if want == api.OK {
			want = api.ErrDead
		}
		if c, e := Open(d); e != want || c != nil {
			t.Error(words, "dead", c, e)
		}
	}
	if c, e := Open(nil); e != api.ErrArg || c != nil {
		t.Error(c, e)
	}
}

func TestADeviceOfNoughts(t *testing.T) {
	for _, words := range []int{32768, 32776, 40008, 50000, 65536} {
		c, d := fresh(t, words)
		mustTell(t, c.Now(), newModel())
		mustBeSound(t, c)
		free, all := c.Room()
		s, h := beneath(t, d)
		if free != h.Free() || all != h.All() || free > all || all < (words-12400)*9/10 || all > s.Size() {
			t.Error(words, free, all)
		}
		if l, e := c.Snaps(); len(l) != 0 || e != api.OK || c.Dead() {
			t.Error(l, e, c.Dead())
		}
	}
}

func TestExamples(t *testing.T) {
	c, _ := fresh(t, leastWords)
	must(t, c.Put("a", []byte("x")))
	id, e := c.Snap()
	must(t, e)
	must(t, c.Put("a", []byte("y")))
	v, e := c.At(1)
	must(t, e)
	if b, there, e := v.Get("a"); id != 1 || string(b) != "x" || !there || e != api.OK {
		t.Error(id, b, there, e)
	}
	if x, e := c.Bump("m", inf); x != inf || e != api.OK {
		t.Error(x, e)
	}
	if x, e := c.Bump("m", -inf); x != 0 || e != api.ErrNaN {
		t.Error(x, e)
	}
}

// What stood stands again, as often as the store is opened; an Open that finds nothing to do writes nothing.
func TestOpenedAnew(t *testing.T) {
	c, d, m := few(t)
	v, e := c.At(1)
	must(t, e)
	old := newModel()
	old.pairs["a"] = "old"
	mustTell(t, v, old)
	c = opened(t, d)
	steps := d.Steps()
	for range 3 {
		c = opened(t, d)
		mustTell(t, c.Now(), m)
		v, e := c.At(1)
		must(t, e)
		mustTell(t, v, old)
		mustBeSound(t, c)
	}
	if d.Steps() != steps || len(d.Waiting()) != 0 {
		t.Error(d.Steps()-steps, d.Waiting())
	}
}

// Pieces that nothing hangs on are swept away: those of pins that are gone, and whatever else.
func TestSwept(t *testing.T) {
	c, d, m := few(t)
	free, _ := c.Room()
	s, h := beneath(t, d)
	must(t, s.Do(func() {
		for i := range 40 {
			s.Put(h.Take(1+i*13), uint64(i))
		}
	}))
	if c.Check() != api.ErrForm {
		t.Error(c.Check())
	}
	c = opened(t, d)
	mustBeSound(t, c)
	mustTell(t, c.Now(), m)
	if now, _ := c.Room(); now != free {
		t.Error(now, free)
	}
	for range 2 {
		_, e := c.Pin()
		must(t, e)
		for i := range 30 {
			put(t, c, m, fmt.Sprint("k", i), fmt.Sprint("another value", i, m.pairs["k1"]))
			setScore(t, c, m, fmt.Sprint("m", i), m.members["m1"]+float64(i))
		}
	}
	less, _ := c.Room()
	c = opened(t, d)
	mustBeSound(t, c)
	mustTell(t, c.Now(), m)
	if more, _ := c.Room(); more <= less {
		t.Error(more, less)
	}
}

// call is one of a Core's, or of a View's; it tells whether all results beside the error are zero values.
type call struct {
	name string
	f    func() (bool, api.Errno)
}

// onCore are all calls of a Core that answer an error.
func onCore(c *Core, v *View) []call {
	none := func(e api.Errno) (bool, api.Errno) { return true, e }
	return []call{
		{"Put", func() (bool, api.Errno) { return none(c.Put("a", []byte("new"))) }},
		{"Put nothing", func() (bool, api.Errno) { return none(c.Put("", nil)) }},
		{"Put much", func() (bool, api.Errno) { return none(c.Put("a", make([]byte, 1025))) }},
		{"Del", func() (bool, api.Errno) { was, e := c.Del("a"); return !was, e }},
		{"Del nothing", func() (bool, api.Errno) { was, e := c.Del(""); return !was, e }},
		{"Set", func() (bool, api.Errno) { return none(c.Set("m", 7)) }},
		{"Set NaN", func() (bool, api.Errno) { return none(c.Set("m", nan)) }},
		{"Bump", func() (bool, api.Errno) { x, e := c.Bump("m", 7); return x == 0, e }},
		{"Unset", func() (bool, api.Errno) { was, e := c.Unset("m"); return !was, e }},
		{"Batch", func() (bool, api.Errno) { return none(c.Batch([]api.Op{{Kind: api.ODel, Key: "a"}})) }},
		{"Batch of none", func() (bool, api.Errno) { return none(c.Batch(nil)) }},
		{"Snap", func() (bool, api.Errno) { n, e := c.Snap(); return n == 0, e }},
		{"At", func() (bool, api.Errno) { v, e := c.At(1); return v == nil, e }},
		{"At none", func() (bool, api.Errno) { v, e := c.At(77); return v == nil, e }},
		{"Drop", func() (bool, api.Errno) { return none(c.Drop(1)) }},
		{"Drop none", func() (bool, api.Errno) { return none(c.Drop(77)) }},
		{"Snaps", func() (bool, api.Errno) { l, e := c.Snaps(); return len(l) == 0, e }},
		{"Pin", func() (bool, api.Errno) { v, e := c.Pin(); return v == nil, e }},
		{"Release", func() (bool, api.Errno) { return none(c.Release(v)) }},
		{"Release nil", func() (bool, api.Errno) { return none(c.Release(nil)) }},
		{"Check", func() (bool, api.Errno) { return none(c.Check()) }},
	}
}

// onView are all calls of a View.
func onView(v *View) []call {
	return []call{
		{"Get", func() (bool, api.Errno) { b, there, e := v.Get("a"); return len(b) == 0 && !there, e }},
		{"Get nothing", func() (bool, api.Errno) { b, there, e := v.Get(""); return len(b) == 0 && !there, e }},
		{"Scan", func() (bool, api.Errno) { l, e := v.Scan("", "", 9); return len(l) == 0, e }},
		{"Scan none", func() (bool, api.Errno) { l, e := v.Scan("", "", -1); return len(l) == 0, e }},
		{"Score", func() (bool, api.Errno) { x, there, e := v.Score("m"); return x == 0 && !there, e }},
		{"Range", func() (bool, api.Errno) { l, e := v.Range(-inf, inf, 9); return len(l) == 0, e }},
		{"Place", func() (bool, api.Errno) { n, there, e := v.Place("m"); return n == 0 && !there, e }},
		{"Spread", func() (bool, api.Errno) { s, e := v.Spread(-inf, inf); return s == api.Spread{}, e }},
		{"Counts", func() (bool, api.Errno) { p, m, e := v.Counts(); return p == 0 && m == 0, e }},
	}
}

func mustAnswer(t *testing.T, want api.Errno, calls ...call) {
	t.Helper()
	for _, x := range calls {
		if zero, e := x.f(); e != want || !zero {
			t.Error(x.name, e, zero)
		}
	}
}

// A Core whose device lost its power is dead from then on, also when the power is back; another one goes on.
func TestDead(t *testing.T) {
	c, d, m := few(t)
	now := c.Now()
	at, e := c.At(1)
	must(t, e)
	pinned, e := c.Pin()
	must(t, e)
	released, e := c.Pin()
	must(t, e)
	must(t, c.Release(released))
	kill(d)
	for range 2 {
		if !c.Dead() {
			t.Error("alive")
		}
		for _, v := range []*View{now, at, pinned, released, c.Now()} {
			mustAnswer(t, api.ErrDead, onCore(c, v)...)
			mustAnswer(t, api.ErrDead, onView(v)...)
		}
		if free, all := c.Room(); free != 0 || all != 0 {
			t.Error(free, all)
		}
		d.Power(false, nil)
	}
	c = opened(t, d)
	if c.Dead() {
		t.Error("dead")
	}
	mustTell(t, c.Now(), m)
	mustBeSound(t, c)
}

// Whichever call is the first to find the power gone, the Core is dead from then on.
func TestDeadByEachCall(t *testing.T) {
	for i := range len(onCore(nil, nil)) + len(onView(nil)) + 2 {
		c, d, _ := few(t)
		calls := append(onCore(c, nil), onView(c.Now())...)
		kill(d)
		switch {
		case i < len(calls):
			mustAnswer(t, api.ErrDead, calls[i])
		case i == len(calls):
			c.Dead()
		default:
			c.Room()
		}
		d.Power(true, nil)
		mustAnswer(t, api.ErrDead, calls...)
	}
}

// 16.2

func TestKeysAndValues(t *testing.T) {
	c, _ := fresh(t, leastWords)
	m := newModel()
	for _, n := range []int{1, 2, 63, 64} {
		for _, b := range []string{"\x00", "k", "\xff"} {
			put(t, c, m, strings.Repeat(b, n), fmt.Sprint(n))
			setScore(t, c, m, strings.Repeat(b, n), float64(n))
		}
	}
	mustTell(t, c.Now(), m)
	for _, s := range []string{"", strings.Repeat("k", 65), strings.Repeat("k", 1000)} {
		if e := c.Put(s, nil); e != api.ErrArg {
			t.Error(len(s), e)
		}
		if e := c.Put(s, make([]byte, 1025)); e != api.ErrArg {
			t.Error(len(s), e)
		}
		if e := c.Set(s, nan); e != api.ErrArg {
			t.Error(len(s), e)
		}
		if x, e := c.Bump(s, nan); x != 0 || e != api.ErrArg {
			t.Error(len(s), x, e)
		}
		if was, e := c.Del(s); was || e != api.OK {
			t.Error(len(s), was, e)
		}
		if was, e := c.Unset(s); was || e != api.OK {
			t.Error(len(s), was, e)
		}
		if b, there, e := c.Now().Get(s); len(b) != 0 || there || e != api.OK {
			t.Error(len(s), b, there, e)
		}
		if x, there, e := c.Now().Score(s); x != 0 || there || e != api.OK {
			t.Error(len(s), x, there, e)
		}
		if n, there, e := c.Now().Place(s); n != 0 || there || e != api.OK {
			t.Error(len(s), n, there, e)
		}
	}
	for _, n := range []int{1025, 1026, 5000} {
		if e := c.Put("k", make([]byte, n)); e != api.ErrBig {
			t.Error(n, e)
		}
	}
	mustTell(t, c.Now(), m)
	mustBeSound(t, c)
}

// Values of each length, of each kind of bytes, one in the place of the other.
func TestValuesOfEachLength(t *testing.T) {
	c, _ := fresh(t, leastWords)
	free, _ := c.Room()
	for n := range api.MaxValue + 1 {
		for _, b := range [][]byte{make([]byte, n), bytes.Repeat([]byte{255}, n), counted(n, n)} {
			must(t, c.Put("k", b))
			if got, there, e := c.Now().Get("k"); !bytes.Equal(got, b) || !there || e != api.OK {
				t.Fatal(n, got, there, e)
			}
		}
		if n%50 == 7 {
			mustBeSound(t, c)
		}
	}
	if was, e := c.Del("k"); !was || e != api.OK {
		t.Error(was, e)
	}
	if now, _ := c.Room(); now != free {
		t.Error(now, free)
	}
}

func TestDelAndUnset(t *testing.T) {
	c, _, m := few(t)
	for range 2 {
		for key := range m.pairs {
			if was, e := c.Del(key); !was || e != api.OK {
				t.Error(key, was, e)
			}
			if was, e := c.Del(key); was || e != api.OK {
				t.Error(key, was, e)
			}
			// A member of the same name is another thing.
			if was, e := c.Unset(key); was || e != api.OK {
				t.Error(key, was, e)
			}
		}
		for name := range m.members {
			if was, e := c.Unset(name); !was || e != api.OK {
				t.Error(name, was, e)
			}
			if was, e := c.Unset(name); was || e != api.OK {
				t.Error(name, was, e)
			}
		}
		mustTell(t, c.Now(), newModel())
		for key, v := range m.pairs {
			put(t, c, m, key, v)
		}
		for name, x := range m.members {
			setScore(t, c, m, name, x)
		}
		mustTell(t, c.Now(), m)
		mustBeSound(t, c)
	}
}

// edges are numbers of all kinds, in the order of Cmp.
var edges = []float64{
	-inf, -math.MaxFloat64, -3, -1 - 0x1p-52, -1, -0x1p-1022, -math.SmallestNonzeroFloat64, minus,
	0, math.SmallestNonzeroFloat64, 0x1p-1022, 1, 1 + 0x1p-52, 3, math.MaxFloat64, inf,
}

// W7: scores keep their bits; what is no number never comes in.
func TestScores(t *testing.T) {
	c, _ := fresh(t, leastWords)
	m := newModel()
	for i, x := range edges {
		setScore(t, c, m, fmt.Sprint("m", i), x)
		setScore(t, c, m, "same", x)
		mustTell(t, c.Now(), m)
	}
	for _, bits := range []uint64{math.Float64bits(nan), math.MaxUint64, 0x7ff0000000000001, 0xfff0000000000001, 0xfff8000000000000} {
		x := math.Float64frombits(bits)
		if e := c.Set("m0", x); e != api.ErrNaN {
			t.Error(bits, e)
		}
		if y, e := c.Bump("m0", x); y != 0 || e != api.ErrNaN {
			t.Error(bits, y, e)
		}
		if e := c.Batch([]api.Op{{Kind: api.OSet, Key: "new", X: 1}, {Kind: api.OSet, Key: "m0", X: x}}); e != api.ErrNaN {
			t.Error(bits, e)
		}
	}
	mustTell(t, c.Now(), m)
}

func TestBump(t *testing.T) {
	c, _ := fresh(t, leastWords)
	m := newModel()
	for i, x := range edges {
		for k, by := range edges {
			name := fmt.Sprint("m", i%3)
			setScore(t, c, m, name, x)
			want, e := num.Add(x, by)
			got, f := c.Bump(name, by)
			if math.Float64bits(got) != math.Float64bits(want) || f != e {
				t.Error(x, by, got, f, want, e)
			}
			if e == api.OK {
				m.members[name] = want
			}
			if k%5 == 0 {
				mustTell(t, c.Now(), m)
			}
		}
	}
	// Who has none has nought, not minus nought.
	if x, e := c.Bump("new", minus); math.Float64bits(x) != 0 || e != api.OK {
		t.Error(x, e)
	}
	m.members["new"] = 0
	if x, e := c.Bump("other", nan); x != 0 || e != api.ErrNaN {
		t.Error(x, e)
	}
	mustTell(t, c.Now(), m)
	mustBeSound(t, c)
}

// applied does an op to a model, as the chapter says, and tells its error.
func applied(m model, op api.Op) api.Errno {
	isName := len(op.Key) >= 1 && len(op.Key) <= 64
	switch op.Kind {
	case api.OPut:
		switch {
		case !isName:
			return api.ErrArg
		case len(op.Value) > 1024:
			return api.ErrBig
		}
		m.pairs[op.Key] = string(op.Value)
	case api.ODel:
		delete(m.pairs, op.Key)
	case api.OSet, api.OBump:
		x := op.X
		if op.Kind == api.OBump {
			x = m.members[op.Key] + op.X
		}
		switch {
		case !isName:
			return api.ErrArg
		case math.IsNaN(x):
			return api.ErrNaN
		}
		m.members[op.Key] = x
	case api.OUnset:
		delete(m.members, op.Key)
	default:
		return api.ErrArg
	}
	return api.OK
}

// batched does a batch to a model: what it is then, and the error.
func batched(m model, l []api.Op) (model, api.Errno) {
	if len(l) < 1 || len(l) > 8 {
		return m, api.ErrArg
	}
	next := m.clone()
	for _, op := range l {
		if e := applied(next, op); e != api.OK {
			return m, e
		}
	}
	return next, api.OK
}

// randomOp is an op about few keys and names; at times it may not be.
func randomOp(r *rand.Rand) api.Op {
	op := api.Op{Kind: 1 + r.Intn(5), Key: fmt.Sprint("k", r.Intn(9)), X: edges[r.Intn(len(edges))]}
	if r.Intn(3) > 0 {
		op.X = r.NormFloat64()
	}
	op.Value = counted(r.Intn(20)*r.Intn(20), r.Intn(9))
	switch r.Intn(60) {
	case 0:
		op.Kind = r.Intn(20) - 10
	case 1:
		op.Key = strings.Repeat("k", r.Intn(2)*65)
	case 2:
		op.X = nan
	case 3:
		op.Value = make([]byte, 1025)
	}
	return op
}

// A batch is its ops one after the other, or none of them.
func TestBatches(t *testing.T) {
	r := rand.New(rand.NewSource(16))
	c, d := fresh(t, leastWords)
	m := newModel()
	told := map[api.Errno]int{}
	for i := range 1500 {
		var l []api.Op
		for range r.Intn(10) {
			l = append(l, randomOp(r))
		}
		before := image(d)
		next, want := batched(m, l)
		if e := c.Batch(l); e != want {
			t.Fatal(i, l, e, want)
		}
		if want != api.OK && !slices.Equal(before, image(d)) {
			t.Fatal(i, l, want, "changed words")
		}
		told[want]++
		m = next
		mustTell(t, c.Now(), m)
		if i%20 == 0 {
			mustBeSound(t, c)
		}
	}
	if told[api.OK] < 500 || told[api.ErrArg] < 50 || told[api.ErrNaN] < 20 || told[api.ErrBig] < 5 || len(told) != 4 {
		t.Error(told)
	}
}

func TestBatchEdges(t *testing.T) {
	c, _ := fresh(t, leastWords)
	m := newModel()
	op := api.Op{Kind: api.OPut, Key: "a", Value: []byte("1")}
	for n, want := range []api.Errno{1, 0, 0, 0, 0, 0, 0, 0, 0, 1, 1} {
		if e := c.Batch(slices.Repeat([]api.Op{op}, n)); e != want {
			t.Error(n, e)
		}
	}
	m.pairs["a"] = "1"
	for _, kind := range []int{-1, 0, 6, 7, math.MinInt, math.MaxInt} {
		if e := c.Batch([]api.Op{{Kind: api.ODel, Key: "a"}, {Kind: kind, Key: "a"}}); e != api.ErrArg {
			t.Error(kind, e)
		}
	}
	// What stands behind each op counts for the next one.
	must(t, c.Batch([]api.Op{
		{Kind: api.OBump, Key: "m", X: 1}, {Kind: api.OBump, Key: "m", X: 2}, {Kind: api.OPut, Key: "m", Value: []byte("pair")},
		{Kind: api.OSet, Key: "n", X: 9}, {Kind: api.OUnset, Key: "n"}, {Kind: api.OBump, Key: "n", X: -1},
		{Kind: api.ODel, Key: "a"}, {Kind: api.OPut, Key: "a", Value: []byte("2")},
	}))
	m.pairs["a"], m.pairs["m"], m.members["m"], m.members["n"] = "2", "pair", 3, -1
	mustTell(t, c.Now(), m)
	// Del and Unset of none, or of what may not be, are none.
	must(t, c.Batch([]api.Op{{Kind: api.ODel, Key: "z"}, {Kind: api.ODel}, {Kind: api.OUnset, Key: strings.Repeat("z", 99)}, {Kind: api.OUnset, Key: "a"}}))
	mustTell(t, c.Now(), m)
	// The first error is told, though a later one stands ahead in the list of errors.
	for want, l := range map[api.Errno][]api.Op{
		api.ErrBig: {{Kind: api.OPut, Key: "q", Value: make([]byte, 2000)}, {Kind: 9}},
		api.ErrNaN: {{Kind: api.OSet, Key: "q", X: nan}, {Kind: api.OPut, Key: "q", Value: make([]byte, 2000)}},
		api.ErrArg: {{Kind: api.OPut, Value: make([]byte, 2000)}, {Kind: api.OSet, Key: "q", X: nan}},
	} {
		if e := c.Batch(l); e != want {
			t.Error(e, want)
		}
	}
	// Bumps that come to no number together.
	if e := c.Batch([]api.Op{{Kind: api.OBump, Key: "q", X: inf}, {Kind: api.ODel, Key: "a"}, {Kind: api.OBump, Key: "q", X: -inf}}); e != api.ErrNaN {
		t.Error(e)
	}
	must(t, c.Batch([]api.Op{{Kind: api.OBump, Key: "m", X: inf}, {Kind: api.OUnset, Key: "m"}, {Kind: api.OBump, Key: "m", X: -inf}}))
	m.members["m"] = -inf
	mustTell(t, c.Now(), m)
	mustBeSound(t, c)
}

// Calls that answer an error, and those that find nothing to do, write nothing.
func TestRefusedCallsWriteNothing(t *testing.T) {
	c, d, m := few(t)
	pinned, e := c.Pin()
	must(t, e)
	before, steps := image(d), d.Steps()
	for want, l := range map[api.Errno][]api.Errno{
		api.ErrArg:  {c.Put("", nil), c.Set("", 1), c.Batch(nil), c.Batch([]api.Op{{Kind: api.OPut, Key: "q"}, {}})},
		api.ErrBig:  {c.Put("a", make([]byte, 1025))},
		api.ErrNaN:  {c.Set("m", nan), c.Batch([]api.Op{{Kind: api.OBump, Key: "n", X: -inf}})},
		api.ErrNone: {c.Drop(0), c.Drop(2), c.Drop(-1), c.Release(nil), c.Release(c.Now())},
	} {
		for i, e := range l {
			if e != want {
				t.Error(want, i, e)
			}
		}
	}
	for _, f := range []func(string) (bool, api.Errno){c.Del, c.Unset} {
		if was, e := f("none"); was || e != api.OK {
			t.Error(was, e)
		}
	}
	mustTell(t, c.Now(), m)
	mustTell(t, pinned, m)
	if !slices.Equal(before, image(d)) || d.Steps() != steps {
		t.Error("a refused call changed words")
	}
}
