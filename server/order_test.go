package server

import (
	"cmp"
	"fmt"
	"maps"
	"math/rand"
	"slices"
	"strings"
	"testing"

	"reliquary/api"
	"reliquary/nvm"
)

// 21.3, W5, W6: all commands of all connections stand in one order, by the steps in which they begin. What is answered is told by maps that know nothing of trees, pieces or connections.

// world is what stands.
type world struct {
	pairs  map[string]string
	scores map[string]int
	snaps  map[int]map[string]string
	last   int // the number of the last snapshot
}

func newWorld() *world {
	return &world{pairs: map[string]string{}, scores: map[string]int{}, snaps: map[int]map[string]string{}}
}

func (w *world) clone() *world {
	return &world{maps.Clone(w.pairs), maps.Clone(w.scores), maps.Clone(w.snaps), w.last}
}

func toldPairs(pairs map[string]string, most int) string {
	keys := slices.Sorted(maps.Keys(pairs))
	keys = keys[:min(most, len(keys))]
	s := fmt.Sprintf("PAIRS %d\n", len(keys))
	for _, k := range keys {
		s += fmt.Sprintf("%s %d\n%s\n", k, len(pairs[k]), pairs[k])
	}
	return s
}

func (w *world) toldScores(most int) string {
	names := slices.Sorted(maps.Keys(w.scores))
	slices.SortStableFunc(names, func(a, b string) int { return cmp.Compare(w.scores[a], w.scores[b]) })
	names = names[:min(most, len(names))]
	s := fmt.Sprintf("SCORED %d\n", len(names))
	for _, name := range names {
		s += fmt.Sprintf("%s %d\n", name, w.scores[name])
	}
	return s
}

// all is what is answered to who asks for all that stands.
func (w *world) all() (asks, told string) {
	asks = "SCAN * * 1000\nRANGE -inf inf 1000\nSNAPS\n"
	ids := slices.Sorted(maps.Keys(w.snaps))
	told = toldPairs(w.pairs, 1000) + w.toldScores(1000) + fmt.Sprint("NUMBERS ", len(ids))
	for _, id := range ids {
		told += fmt.Sprint(" ", id)
	}
	told += "\n"
	for _, id := range ids {
		asks += fmt.Sprintf("SCANAT %d * * 1000\n", id)
		told += toldPairs(w.snaps[id], 1000)
	}
	return asks, told
}

func toldValue(pairs map[string]string, key string) string {
	v, there := pairs[key]
	if !there {
		return "NONE\n"
	}
	return fmt.Sprintf("VALUE %d\n%s\n", len(v), v)
}

func yes(there bool) string {
	if there {
		return "YES\n"
	}
	return "NO\n"
}

// message is one of a client's, and how it is answered.
type message struct {
	text string
	need int  // so many bytes of it must be there for it to begin
	kept bool // behind BEGIN
	do   func(w *world, c *client) string
}

func line(s string, do func(w *world, c *client) string) message {
	return message{text: s + "\n", need: len(s) + 1, do: do}
}

// client is one with a number, who sends one message behind the other, in pieces.
type client struct {
	text   string // all of it
	sent   int
	l      []message // what did not begin yet
	begins int       // where the first of them begins in the text
	told   string    // the answer to what is under way
	left   int       // so many steps it takes yet
	out    string    // what was answered and not taken yet
	keeps  bool
	kept   []message
	closed bool
}

func (c *client) busy() bool {
	return c.left > 0 || !c.closed && len(c.l) > 0 && c.begins+c.l[0].need <= c.sent
}

// step tells whether there was something to do.
func (c *client) step(w *world) bool {
	if !c.busy() {
		return false
	}
	if c.left > 0 {
		c.left--
	} else {
		m := c.l[0]
		c.l, c.begins = c.l[1:], c.begins+len(m.text)
		c.told = c.answer(w, m)
		c.left = parts(c.told)
	}
	if c.left == 0 {
		c.out += c.told
	}
	return true
}

func (c *client) answer(w *world, m message) string {
	switch {
	case !m.kept || !c.keeps:
		return m.do(w, c)
	case len(c.kept) == 8:
		return "ERR MANY\n"
	}
	c.kept = append(c.kept, m)
	return "OK\n"
}

// parts is how many pairs or members are told.
func parts(answer string) int {
	for _, head := range []string{"PAIRS %d", "SCORED %d"} {
		var n int
		if _, e := fmt.Sscanf(answer, head, &n); e == nil {
			return n
		}
	}
	return 0
}

func begin(_ *world, c *client) string {
	if c.keeps {
		return "ERR ARG\n"
	}
	c.keeps = true
	return "OK\n"
}

func commit(w *world, c *client) string {
	l := c.kept
	if s := cancel(w, c); s != "OK\n" {
		return s
	}
	for _, m := range l {
		m.do(w, c)
	}
	return "OK\n"
}

func cancel(_ *world, c *client) string {
	if !c.keeps {
		return "ERR ARG\n"
	}
	c.keeps, c.kept = false, nil
	return "OK\n"
}

func quit(_ *world, c *client) string {
	c.closed = true
	return "OK\n"
}

func says(s string) func(*world, *client) string {
	return func(*world, *client) string { return s }
}

// chance makes messages.
type chance struct {
	*rand.Rand
	snaps bool // SNAP and DROP too
}

func (r chance) message() message {
	switch r.Intn(3) {
	case 0:
		return r.change()
	case 1:
		return r.question()
	}
	return r.other()
}

func (r chance) change() message {
	k, x := string("abcdef"[r.Intn(6)]), r.Intn(7)-3
	var m message
	switch r.Intn(5) {
	case 0:
		v := strings.Repeat("\n"+k, r.Intn(9))
		m = line(fmt.Sprintf("PUT %s %d\n%s", k, len(v), v), func(w *world, _ *client) string {
			w.pairs[k] = v
			return "OK\n"
		})
	case 1:
		m = line("DEL "+k, func(w *world, _ *client) string {
			_, there := w.pairs[k]
			delete(w.pairs, k)
			return yes(there)
		})
	case 2:
		m = line(fmt.Sprint("SET ", k, " ", x), func(w *world, _ *client) string {
			w.scores[k] = x
			return "OK\n"
		})
	case 3:
		m = line(fmt.Sprint("BUMP ", k, " ", x), func(w *world, _ *client) string {
			w.scores[k] += x
			return fmt.Sprintf("SCORE %d\n", w.scores[k])
		})
	case 4:
		m = line("UNSET "+k, func(w *world, _ *client) string {
			_, there := w.scores[k]
			delete(w.scores, k)
			return yes(there)
		})
	}
	m.kept = true
	return m
}

func (r chance) question() message {
	k, n, id := string("abcdef"[r.Intn(6)]), r.Intn(7), r.Intn(20)
	switch r.Intn(6) {
	case 0:
		return line("GET "+k, func(w *world, _ *client) string { return toldValue(w.pairs, k) })
	case 1:
		return line(fmt.Sprint("SCAN * * ", n), func(w *world, _ *client) string { return toldPairs(w.pairs, n) })
	case 2:
		return line(fmt.Sprint("RANGE -inf inf ", n), func(w *world, _ *client) string { return w.toldScores(n) })
	case 3:
		return line("COUNT", func(w *world, _ *client) string {
			return fmt.Sprintf("NUMBERS 2 %d %d\n", len(w.pairs), len(w.scores))
		})
	case 4:
		return line(fmt.Sprint("GETAT ", id, " ", k), func(w *world, _ *client) string {
			if w.snaps[id] == nil {
				return "ERR NOSNAP\n"
			}
			return toldValue(w.snaps[id], k)
		})
	}
	return line(fmt.Sprint("SCANAT ", id, " * * ", n), func(w *world, _ *client) string {
		if w.snaps[id] == nil {
			return "ERR NOSNAP\n"
		}
		return toldPairs(w.snaps[id], n)
	})
}

func (r chance) other() message {
	id := r.Intn(20)
	switch n := r.Intn(60); {
	case n < 20:
		return line("BEGIN", begin)
	case n < 30:
		return line("COMMIT", commit)
	case n < 33:
		return line("CANCEL", cancel)
	case n < 34:
		return line("QUIT", quit)
	case n < 36:
		return line("nothing", says("ERR SYNTAX\n"))
	case n < 38:
		m := line("PUT a 1030", says("ERR TOOBIG\n"))
		m.text += strings.Repeat("PING\n", 206) + "\n"
		return m
	case n < 48 && r.snaps:
		return line("SNAP", func(w *world, _ *client) string {
			if len(w.snaps) == 8 {
				return "ERR MANY\n"
			}
			w.last++
			w.snaps[w.last] = maps.Clone(w.pairs)
			return fmt.Sprintf("NUMBER %d\n", w.last)
		})
	case n < 55 && r.snaps:
		return line(fmt.Sprint("DROP ", id), func(w *world, _ *client) string {
			if w.snaps[id] == nil {
				return "ERR NOSNAP\n"
			}
			delete(w.snaps, id)
			return "OK\n"
		})
	}
	return line("PING", says("OK\n"))
}

func (r chance) client() *client {
	c := &client{}
	for range 5 + r.Intn(60) {
		m := r.message()
		c.text += m.text
		c.l = append(c.l, m)
	}
	return c
}

// mirror is a server, and what it is to be.
type mirror struct {
	t       *testing.T
	r       chance
	s       *Server
	w       *world
	clients map[int]*client
}

func newMirror(t *testing.T, r chance) (*mirror, *nvm.Device) {
	s, d := fresh(t)
	return &mirror{t, r, s, newWorld(), map[int]*client{}}, d
}

// id is a number of few, so that it is often there.
func (m *mirror) id() int {
	return []int{1, 2, 3, 10, 42, 50, 97, 98, 99, 7, 0, 100}[m.r.Intn(12)]
}

// one is a number that is there, if any is.
func (m *mirror) one() int {
	l := m.s.Conns()
	if len(l) == 0 {
		return 1
	}
	return l[m.r.Intn(len(l))]
}

func (m *mirror) open(id int) {
	want := api.OK
	switch {
	case id < 1 || id > 99:
		want = api.ErrArg
	case m.clients[id] != nil:
		want = api.ErrThere
	case len(m.clients) == 8:
		want = api.ErrMany
	default:
		m.clients[id] = m.r.client()
	}
	mustBe(m.t, "Open", m.s.Open(id), want)
}

func (m *mirror) hang(id int) {
	mustBe(m.t, "Hang", m.s.Hang(id), m.none(id))
	delete(m.clients, id)
	if got, want := m.s.Conns(), slices.Sorted(maps.Keys(m.clients)); !slices.Equal(got, want) {
		m.t.Fatal(got, want)
	}
}

// none is the error of who has a number that is not there.
func (m *mirror) none(id int) api.Errno {
	if m.clients[id] == nil {
		return api.ErrNone
	}
	return api.OK
}

func (m *mirror) send(id, size int) {
	c := m.clients[id]
	if c == nil {
		mustBe(m.t, "Send", m.s.Send(id, []byte("PING\n")), api.ErrNone)
		return
	}
	n := min(size, len(c.text)-c.sent)
	mustBe(m.t, "Send", m.s.Send(id, []byte(c.text[c.sent:c.sent+n])), api.OK)
	c.sent += n
}

func (m *mirror) pick(id int) {
	c := m.clients[id]
	want := c != nil && c.step(m.w)
	if did, e := m.s.Pick(id); did != want || e != m.none(id) {
		m.t.Fatal(id, did, e, want)
	}
}

func (m *mirror) take(id int) {
	want := ""
	if c := m.clients[id]; c != nil {
		want, c.out = c.out, ""
	}
	if b, e := m.s.Take(id); string(b) != want || e != m.none(id) {
		m.t.Fatalf("%d: %q %d, not %q", id, b, e, want)
	}
}

// rounds does what Run is to do, and calls behind for each step.
func (m *mirror) rounds(n int, behind func()) int {
	for k := range n {
		did := false
		for _, id := range slices.Sorted(maps.Keys(m.clients)) {
			did = m.clients[id].step(m.w) || did
			behind()
		}
		if !did {
			return k
		}
	}
	return max(n, 0)
}

func (m *mirror) run(n int) {
	want := m.rounds(n, func() {})
	if did := m.s.Run(n); did != want {
		m.t.Fatal(did, want)
	}
}

// stands asks whether that is what stands.
func (m *mirror) stands(w *world) bool {
	asks, told := w.all()
	return asked(m.t, m.s, asks) == told
}

// Those who come and go, send by pieces and are picked by chance.
func TestOneOrder(t *testing.T) {
	for seed := range 120 {
		m, _ := newMirror(t, chance{rand.New(rand.NewSource(int64(seed))), true})
		size := []int{3, 30, 300, 4096}[m.r.Intn(4)]
		for range 700 {
			switch n := m.r.Intn(100); {
			case n < 5:
				m.open(m.id())
			case n < 6:
				m.hang(m.id())
			case n < 40:
				m.send(m.one(), m.r.Intn(size+1))
			case n < 70:
				m.pick(m.one())
			case n < 75:
				m.run(m.r.Intn(6) - 1)
			case n < 77:
				m.pick(m.id())
				m.take(m.id())
				m.send(m.id(), m.r.Intn(size+1))
			default:
				m.take(m.one())
			}
		}
		m.run(5000)
		for id := range m.clients {
			m.take(id)
		}
		mustBe(t, "Again", m.s.Again(), api.OK)
		if !m.stands(m.w) || m.s.Core().Check() != api.OK {
			t.Fatal(seed)
		}
	}
}

// keeps are the words that a loss of power lets be, of those that wait.
func (r chance) keeps(d *nvm.Device) []int {
	return slices.DeleteFunc(d.Waiting(), func(int) bool { return r.Intn(2) == 0 })
}

// comes lets many clients come, all of whose messages are there.
func (m *mirror) comes() {
	for range 9 {
		m.open(m.id())
		m.send(m.one(), 4096)
	}
}

// back brings the power back, and tells which of some worlds stands; nil, if none.
func (m *mirror) back(d *nvm.Device, l []*world) *world {
	d.Power(m.r.Intn(2) == 0, m.r.keeps(d))
	mustBe(m.t, "Again", m.s.Again(), api.OK)
	mustBe(m.t, "Check", m.s.Core().Check(), api.OK)
	m.clients = map[int]*client{}
	for _, w := range l {
		if m.stands(w) {
			return w
		}
	}
	return nil
}

// 21.2, W2: the power goes in a step. What was done ahead of it stands, what was under way whole or not at all, what was begun or kept alone is gone.
func TestLossesInSteps(t *testing.T) {
	whole, not := 0, 0
	for seed := range 60 {
		m, d := newMirror(t, chance{rand.New(rand.NewSource(int64(seed))), false})
		for range 5 {
			m.comes()
			d.Fuse(m.r.Intn(2000))
			before := m.w
			for range 300 {
				before = m.w.clone()
				id := m.one()
				if m.pick(id); m.s.Core().Dead() {
					break
				}
				m.take(id)
			}
			if !m.s.Core().Dead() {
				kill(d)
				before = m.w
			}
			mustBeDead(t, m.s)
			w := m.back(d, []*world{m.w, before})
			switch w {
			case nil:
				t.Fatal(seed, "neither what was answered nor what might be stands")
			case m.w:
				whole++
			case before:
				not++
			}
			m.w = w
		}
	}
	if whole < 50 || not < 50 {
		t.Error("too few of one sort:", whole, not)
	}
}

// 21.2, W2: the power goes in a Run, somewhere among the steps of many.
func TestLossesInRuns(t *testing.T) {
	for seed := range 60 {
		m, d := newMirror(t, chance{rand.New(rand.NewSource(int64(seed))), false})
		for range 3 {
			m.comes()
			l := []*world{m.w.clone()}
			d.Fuse(m.r.Intn(1000))
			m.rounds(50, func() { l = append(l, m.w.clone()) })
			m.s.Run(50)
			if !m.s.Core().Dead() {
				kill(d)
				l = l[len(l)-1:]
			}
			mustBeDead(t, m.s)
			if m.w = m.back(d, l); m.w == nil {
				t.Fatal(seed, "what stands never was")
			}
		}
	}
}

// 21.4, W9: whatever is called with whatever numbers and bytes, it ends, and what there may be stays within its bounds.
func TestAnyCalls(t *testing.T) {
	r := rand.New(rand.NewSource(9))
	s, d := fresh(t)
	for range 20000 {
		id, n := r.Intn(14)-2, r.Intn(9)-2
		switch r.Intn(40) {
		default:
			b := make([]byte, r.Intn(400))
			r.Read(b)
			for i := range b {
				if k := r.Intn(40); k < 12 {
					b[i] = "\n\n\n 1aPUTGET"[k]
				}
			}
			s.Send(id, b)
		case 0, 1, 2, 3:
			s.Open(id)
		case 4:
			s.Hang(id)
		case 5, 6, 7, 8, 9, 10:
			s.Pick(id)
		case 11, 12, 13:
			s.Take(id)
		case 14, 15:
			if did := s.Run(n); did < 0 || did > max(n, 0) {
				t.Fatal(did, n)
			}
		case 16:
			s.Send(id, []byte("\nBEGIN\nSET a 1\nSET b 2\nPUT c 1\nx\nCOMMIT\nSNAP\n"))
		case 17:
			d.Fuse(r.Intn(300))
		case 18:
			if s.Core().Dead() {
				s.Again()
				d.Power(r.Intn(2) == 0, d.Waiting())
				mustBe(t, "Again", s.Again(), api.OK)
			}
		}
		l := s.Conns()
		if len(l) > 8 || !slices.IsSorted(l) || len(l) > 0 && (l[0] < 1 || l[len(l)-1] > 99) {
			t.Fatal(l)
		}
	}
	if s.Core().Dead() {
		d.Power(false, nil)
		mustBe(t, "Again", s.Again(), api.OK)
	}
	mustBe(t, "Check", s.Core().Check(), api.OK)
}
