package conn

import (
	"fmt"
	"maps"
	"math"
	"math/rand"
	"slices"
	"strings"
	"testing"

	"reliquary/api"
	"reliquary/num"
	"reliquary/nvm"
	"reliquary/reply"
)

// 20.3, W5, W6: what is answered, by maps that know nothing of trees, pieces or steps.

// world is what stands.
type world struct {
	pairs   map[string]string
	members map[string]float64
	snaps   map[int]map[string]string
	last    int // the number of the last snapshot
}

func newWorld() *world {
	return &world{pairs: map[string]string{}, members: map[string]float64{}, snaps: map[int]map[string]string{}}
}

func (w *world) clone() *world {
	return &world{maps.Clone(w.pairs), maps.Clone(w.members), maps.Clone(w.snaps), w.last}
}

// all is what a client is told of a world.
func (w *world) all() string {
	s := toldScan(w.pairs, "*", "*", 1000) + w.toldRange(math.Inf(-1), math.Inf(1), 1000) + w.toldSnaps()
	for _, id := range slices.Sorted(maps.Keys(w.snaps)) {
		s += toldScan(w.snaps[id], "*", "*", 1000)
	}
	return s
}

// asksForAll are the commands that all answers.
func (w *world) asksForAll() string {
	s := "SCAN * * 1000\nRANGE -inf inf 1000\nSNAPS\n"
	for _, id := range slices.Sorted(maps.Keys(w.snaps)) {
		s += fmt.Sprintf("SCANAT %d * * 1000\n", id)
	}
	return s
}

func toldScan(pairs map[string]string, lo, hi string, most int) string {
	n, s := 0, ""
	for _, k := range slices.Sorted(maps.Keys(pairs)) {
		if (lo == "*" || k >= lo) && (hi == "*" || k < hi) && n < most {
			n++
			s += fmt.Sprintf("%s %d\n%s\n", k, len(pairs[k]), pairs[k])
		}
	}
	return fmt.Sprintf("PAIRS %d\n%s", n, s)
}

func toldValue(pairs map[string]string, key string) string {
	v, there := pairs[key]
	if !there {
		return "NONE\n"
	}
	return fmt.Sprintf("VALUE %d\n%s\n", len(v), v)
}

// ranked are the names of the members, by their scores.
func (w *world) ranked() []string {
	l := slices.Sorted(maps.Keys(w.members))
	slices.SortStableFunc(l, func(a, b string) int { return num.Cmp(w.members[a], w.members[b]) })
	return l
}

func (w *world) toldRange(lo, hi float64, most int) string {
	n, s := 0, ""
	for _, name := range w.ranked() {
		if x := w.members[name]; num.Cmp(x, lo) >= 0 && num.Cmp(x, hi) <= 0 && n < most {
			n++
			s += name + " " + num.Text(x) + "\n"
		}
	}
	return fmt.Sprintf("SCORED %d\n%s", n, s)
}

func (w *world) toldSnaps() string {
	s := fmt.Sprint("NUMBERS ", len(w.snaps))
	for _, id := range slices.Sorted(maps.Keys(w.snaps)) {
		s += fmt.Sprint(" ", id)
	}
	return s + "\n"
}

func yes(there bool) string {
	if there {
		return "YES\n"
	}
	return "NO\n"
}

// put, del, set, bump and unset do as their commands, and tell the answer.
func (w *world) put(key, value string) string {
	w.pairs[key] = value
	return "OK\n"
}

func (w *world) del(key string) string {
	_, there := w.pairs[key]
	delete(w.pairs, key)
	return yes(there)
}

func (w *world) set(name string, x float64) string {
	w.members[name] = x
	return "OK\n"
}

func (w *world) bump(name string, by float64) string {
	sum := w.members[name] + by
	if math.IsNaN(sum) {
		return "ERR NAN\n"
	}
	w.members[name] = sum
	return "SCORE " + num.Text(sum) + "\n"
}

func (w *world) unset(name string) string {
	_, there := w.members[name]
	delete(w.members, name)
	return yes(there)
}

// message is one of a client's, and what it is answered.
type message struct {
	text  string
	need  int // so many bytes of it must be there for it to begin
	batch bool
	do    func(w *world) string
	other func(w *world, c *client) string // in place of do, where it is the client's
	steps func(answer string) int
}

// client is one who sends messages, some of which came, and what it is answered.
type client struct {
	text   string // all of it
	fed    int
	conn   *Conn
	l      []message
	begins int // where the next message begins in the text
	left   int
	told   string
	out    string // what was answered
	keeps  bool
	kept   []message
	closed bool
}

func (c *client) busy() bool {
	return c.left > 0 || !c.closed && len(c.l) > 0 && c.begins+c.l[0].need <= c.fed
}

// step does what the client's Conn is to do.
func (c *client) step(w *world) {
	if c.left > 0 {
		c.left--
	} else {
		m := c.l[0]
		c.l, c.begins = c.l[1:], c.begins+len(m.text)
		c.told = c.answer(w, m)
		if m.steps != nil {
			c.left = m.steps(c.told)
		}
	}
	if c.left == 0 {
		c.out += c.told
	}
}

func (c *client) answer(w *world, m message) string {
	switch {
	case m.other != nil:
		return m.other(w, c)
	case !m.batch || !c.keeps:
		return m.do(w)
	case len(c.kept) == 8:
		return "ERR MANY\n"
	}
	c.kept = append(c.kept, m)
	return "OK\n"
}

func commit(w *world, c *client) string {
	if !c.keeps {
		return "ERR ARG\n"
	}
	l, after := c.kept, w.clone()
	c.keeps, c.kept = false, nil
	for _, m := range l {
		if s := m.do(after); strings.HasPrefix(s, "ERR") {
			return s
		}
	}
	*w = *after
	return "OK\n"
}

func begin(_ *world, c *client) string {
	if c.keeps {
		return "ERR ARG\n"
	}
	c.keeps = true
	return "OK\n"
}

func cancel(_ *world, c *client) string {
	if !c.keeps {
		return "ERR ARG\n"
	}
	c.keeps, c.kept = false, nil
	return "OK\n"
}

func quit(_ *world, c *client) string {
	c.closed = true
	return "OK\n"
}

// toldLines is how many there are of what is told, of one line each: the values here have no line feeds.
func toldLines(answer string) int {
	return strings.Count(answer, "\n") - 1
}

func toldPairsOf(answer string) int {
	return toldLines(answer) / 2
}

func line(s string, do func(w *world) string) message {
	return message{text: s + "\n", need: len(s) + 1, do: do}
}

// chance makes messages.
type chance struct {
	*rand.Rand
}

func (r chance) name() string {
	return string("abcdefgh"[r.Intn(8)])
}

func (r chance) bound() string {
	return string("*abcdefgh"[r.Intn(9)])
}

func (r chance) score() float64 {
	return []float64{0, math.Copysign(0, -1), 1, 2.5, -3, 1e300, math.Inf(1), math.Inf(-1)}[r.Intn(8)]
}

// message is one of any kind.
func (r chance) message() message {
	switch r.Intn(4) {
	case 0:
		return r.change()
	case 1:
		return r.question()
	case 2:
		return r.ofSnaps()
	}
	return r.other()
}

// change is one that may be kept.
func (r chance) change() message {
	k, x := r.name(), r.score()
	var m message
	switch r.Intn(5) {
	case 0:
		v := strings.Repeat(k, r.Intn(20))
		m = line(fmt.Sprint("PUT ", k, " ", len(v), "\n", v), func(w *world) string { return w.put(k, v) })
		if len(v) > 0 && r.Intn(5) == 0 {
			// No line feed behind: the first byte of the next message shows that.
			m.text = m.text[:len(m.text)-1]
		}
	case 1:
		m = line("DEL "+k, func(w *world) string { return w.del(k) })
	case 2:
		m = line("SET "+k+" "+num.Text(x), func(w *world) string { return w.set(k, x) })
	case 3:
		m = line("BUMP "+k+" "+num.Text(x), func(w *world) string { return w.bump(k, x) })
	case 4:
		m = line("UNSET "+k, func(w *world) string { return w.unset(k) })
	}
	m.batch = true
	return m
}

func (r chance) question() message {
	k, n, x, y := r.name(), r.Intn(9), r.score(), r.score()
	lo, hi := r.bound(), r.bound()
	switch r.Intn(6) {
	case 0:
		return line("GET "+k, func(w *world) string { return toldValue(w.pairs, k) })
	case 1:
		m := line(fmt.Sprint("SCAN ", lo, " ", hi, " ", n), func(w *world) string { return toldScan(w.pairs, lo, hi, n) })
		m.steps = toldPairsOf
		return m
	case 2:
		return line("SCORE "+k, func(w *world) string {
			if x, there := w.members[k]; there {
				return "SCORE " + num.Text(x) + "\n"
			}
			return "NONE\n"
		})
	case 3:
		m := line(fmt.Sprint("RANGE ", num.Text(x), " ", num.Text(y), " ", n), func(w *world) string { return w.toldRange(x, y, n) })
		m.steps = toldLines
		return m
	case 4:
		return line("PLACE "+k, func(w *world) string {
			if at := slices.Index(w.ranked(), k); at >= 0 {
				return fmt.Sprintf("NUMBER %d\n", at)
			}
			return "NONE\n"
		})
	}
	return line("COUNT", func(w *world) string { return fmt.Sprintf("NUMBERS 2 %d %d\n", len(w.pairs), len(w.members)) })
}

// ofSnap is one that asks for a snapshot that may be.
func (r chance) ofSnap(s func(id int) string, do func(w *world, id int) string) message {
	id := r.Intn(20)
	return line(s(id), func(w *world) string {
		if w.snaps[id] == nil {
			return "ERR NOSNAP\n"
		}
		return do(w, id)
	})
}

func (r chance) ofSnaps() message {
	k, lo, hi, n := r.name(), r.bound(), r.bound(), r.Intn(9)
	switch r.Intn(5) {
	case 0:
		return line("SNAP", func(w *world) string {
			if len(w.snaps) == 8 {
				return "ERR MANY\n"
			}
			w.last++
			w.snaps[w.last] = maps.Clone(w.pairs)
			return fmt.Sprintf("NUMBER %d\n", w.last)
		})
	case 1:
		return line("SNAPS", (*world).toldSnaps)
	case 2:
		return r.ofSnap(func(id int) string { return fmt.Sprint("DROP ", id) }, func(w *world, id int) string {
			delete(w.snaps, id)
			return "OK\n"
		})
	case 3:
		return r.ofSnap(func(id int) string { return fmt.Sprint("GETAT ", id, " ", k) }, func(w *world, id int) string {
			return toldValue(w.snaps[id], k)
		})
	}
	m := r.ofSnap(func(id int) string { return fmt.Sprint("SCANAT ", id, " ", lo, " ", hi, " ", n) }, func(w *world, id int) string {
		return toldScan(w.snaps[id], lo, hi, n)
	})
	m.steps = func(answer string) int { return max(0, toldPairsOf(answer)) }
	return m
}

func (r chance) other() message {
	of := func(s string, f func(w *world, c *client) string) message {
		return message{text: s + "\n", need: len(s) + 1, other: f}
	}
	says := func(s string) func(*world) string {
		return func(*world) string { return s }
	}
	switch r.Intn(16) {
	case 0, 1, 2, 3:
		return of("BEGIN", begin)
	case 4, 5, 6:
		return of("COMMIT", commit)
	case 7:
		return of("CANCEL", cancel)
	case 8:
		return line("PING\r", says("OK\n"))
	case 9, 10:
		return line([]string{"", "wrong", "GET", "ping", "GET \x00"}[r.Intn(5)], says("ERR SYNTAX\n"))
	case 11:
		n := 258 + r.Intn(400)
		m := line(strings.Repeat("x", n), says("ERR TOOBIG\n"))
		m.need = 258
		return m
	case 12:
		return line(strings.Repeat("x", 257), says("ERR TOOBIG\n"))
	case 13:
		s := fmt.Sprint("PUT a ", 1025+r.Intn(99))
		m := line(s, says("ERR TOOBIG\n"))
		var n int
		fmt.Sscan(s[6:], &n)
		m.text += strings.Repeat("PING\n", n)[:n+1]
		return m
	}
	if r.Intn(40) == 0 {
		return of("QUIT", quit)
	}
	return line("PING", says("OK\n"))
}

// client is one with so many messages to send.
func (r chance) client(conn *Conn, many int) *client {
	c := &client{conn: conn}
	for range many {
		m := r.message()
		for len(c.l) > 0 && m.text[0] == '\n' && c.l[len(c.l)-1].need > len(c.l[len(c.l)-1].text) {
			// Its line feed would be that of the value ahead of it.
			m = r.message()
		}
		c.text += m.text
		c.l = append(c.l, m)
	}
	return c
}

// feed lets so many of a client's bytes come.
func (c *client) feed(n int) {
	n = min(n, len(c.text)-c.fed)
	c.conn.Feed([]byte(c.text[c.fed : c.fed+n]))
	c.fed += n
}

// mustStepAlike lets the Conn and what it is to be do a step.
func (c *client) mustStepAlike(t *testing.T, w *world) {
	t.Helper()
	busy := c.busy()
	at := c.begins
	if busy {
		c.step(w)
	}
	want := c.out
	c.out = ""
	if was, did, got := c.conn.Busy(), c.conn.Step(), string(c.conn.Out()); was != busy || did != busy || got != want || c.conn.Closed() != c.closed {
		t.Fatalf("at %.60q: busy %v, did %v, closed %v, %q, not %v, %q", c.text[at:], was, did, c.conn.Closed(), got, busy, want)
	}
}

// Several clients at once, whose bytes come in pieces by chance, and who step by chance: each Step does what it is to do.
func TestOneOrder(t *testing.T) {
	r := chance{rand.New(rand.NewSource(1))}
	for range 60 {
		c := store(t)
		w := newWorld()
		var clients []*client
		for range 1 + r.Intn(4) {
			clients = append(clients, r.client(New(c), 150))
		}
		size := []int{1, 5, 40, 5000}[r.Intn(4)]
		for busy := true; busy; {
			busy = false
			for range 20 {
				x := clients[r.Intn(len(clients))]
				if r.Intn(3) == 0 {
					x.feed(r.Intn(size + 1))
				}
				for range r.Intn(4) {
					x.mustStepAlike(t, w)
				}
			}
			for _, x := range clients {
				busy = busy || x.fed < len(x.text) || x.busy()
			}
		}
		if got := answers(New(c), w.asksForAll()); got != w.all() {
			t.Fatalf("%q, not %q", got, w.all())
		}
		if e := c.Check(); e != api.OK {
			t.Fatal(e)
		}
	}
}

// cut lets a text come in pieces by chance, with steps between them, and tells all answers.
func cut(n *Conn, text string, size int, r *rand.Rand) string {
	var out strings.Builder
	for len(text) > 0 || n.Busy() {
		k := min(r.Intn(size+1), len(text))
		n.Feed([]byte(text[:k]))
		text = text[k:]
		for range r.Intn(3) {
			n.Step()
		}
		if r.Intn(3) == 0 {
			out.Write(n.Out())
		}
	}
	return out.String() + string(n.Out())
}

// W6, W9: whatever the bytes, they are answered alike however they come, and by answers.
func TestHostileBytes(t *testing.T) {
	r := chance{rand.New(rand.NewSource(2))}
	for i := range 150 {
		text := []byte(r.client(nil, 60).text)
		for range i % 40 {
			at := r.Intn(len(text))
			switch r.Intn(4) {
			case 0:
				text[at] = byte(r.Intn(256))
			case 1:
				text = slices.Delete(text, at, at+1)
			case 2:
				text = slices.Insert(text, at, "\n0 9x"[r.Intn(5)])
			case 3:
				text = slices.Insert(text, at, text[r.Intn(len(text)):][:1]...)
			}
		}
		want := ""
		for _, size := range []int{1 << 20, 1, 9, 600} {
			n := New(store(t))
			got := cut(n, string(text), size, r.Rand)
			if want == "" {
				want = got
			}
			if got != want {
				t.Fatalf("%q in pieces of %d: %q, not %q", text, size, got, want)
			}
		}
		if l, e := reply.Parse(want); strings.Join(l, "") != want || e != api.OK {
			t.Fatalf("%q: %d", want, e)
		}
	}
}

// Bytes by chance alone.
func TestAnyBytes(t *testing.T) {
	r := rand.New(rand.NewSource(3))
	c := store(t)
	for range 200 {
		n := New(c)
		b := make([]byte, r.Intn(3000))
		r.Read(b)
		for i := range b {
			if r.Intn(8) == 0 {
				b[i] = '\n'
			}
		}
		got := cut(n, string(b), 100, r)
		if strings.Trim(got, "ERSYNTAXOBIG \n") != "" {
			t.Fatalf("%q", got)
		}
	}
	if e := c.Check(); e != api.OK {
		t.Fatal(e)
	}
}

// kept are the words that a loss of power lets be, of those that wait.
func kept(d *nvm.Device, r *rand.Rand) []int {
	var l []int
	for _, w := range d.Waiting() {
		if r.Intn(2) == 0 {
			l = append(l, w)
		}
	}
	return l
}

// mustSnap makes a snapshot behind a loss of power. A number that was never told may be used up.
func mustSnap(t *testing.T, n *Conn, w *world) {
	t.Helper()
	if len(w.snaps) == 8 {
		id := slices.Min(slices.Collect(maps.Keys(w.snaps)))
		delete(w.snaps, id)
		answers(n, fmt.Sprintf("DROP %d\n", id))
	}
	switch got := answers(n, "SNAP\n"); got {
	case fmt.Sprintf("NUMBER %d\n", w.last+1):
		w.last++
	case fmt.Sprintf("NUMBER %d\n", w.last+2):
		w.last += 2
	default:
		t.Fatal(got, w.last)
	}
	w.snaps[w.last] = maps.Clone(w.pairs)
}

// W2: the power goes at any step. What was answered stands, what was under way whole or not at all, what was begun alone is gone.
func TestLosses(t *testing.T) {
	r := chance{rand.New(rand.NewSource(4))}
	died, done := 0, 0
	for range 150 {
		c, d := fresh(t, leastWords)
		w := newWorld()
		for range 3 {
			x := r.client(New(c), 60)
			x.feed(len(x.text))
			before := w.clone()
			d.Fuse(r.Intn(1500))
			for x.busy() {
				before = w.clone()
				x.step(w)
				if x.conn.Step(); c.Dead() {
					break
				}
				if got := string(x.conn.Out()); got != x.out {
					t.Fatalf("%q, not %q", got, x.out)
				}
				x.out = ""
			}
			if !c.Dead() {
				kill(d)
				before = w
			} else if got := string(x.conn.Out()); got != "ERR DEAD\n" || !x.conn.Closed() {
				t.Fatalf("%q", got)
			}
			d.Power(r.Intn(2) == 0, kept(d, r.Rand))
			c = opened(t, d)
			got := answers(New(c), w.asksForAll())
			switch {
			case got == w.all():
				done++
			case answers(New(c), before.asksForAll()) == before.all():
				died++
				w = before
			default:
				t.Fatalf("%q, neither %q nor %q", got, w.all(), before.all())
			}
			mustSnap(t, New(c), w)
			if e := c.Check(); e != api.OK {
				t.Fatal(e)
			}
		}
	}
	if died < 50 || done < 50 {
		t.Error("too few of one sort:", died, done)
	}
}
