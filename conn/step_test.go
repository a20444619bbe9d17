package conn

import (
	"runtime"
	"strconv"
	"strings"
	"testing"

	"reliquary/api"
	"reliquary/core"
	"reliquary/parse"
	"reliquary/reply"
)

// mustStep asks that there is something to do, and what was answered behind the step.
func mustStep(t *testing.T, n *Conn, want string) {
	t.Helper()
	if !n.Busy() {
		t.Errorf("not busy ahead of %q", want)
	}
	if !n.Step() {
		t.Errorf("no step ahead of %q", want)
	}
	if got := string(n.Out()); got != want {
		t.Errorf("%q, not %q", got, want)
	}
}

// mustRest asks that there is nothing to do.
func mustRest(t *testing.T, n *Conn) {
	t.Helper()
	if n.Busy() || n.Step() || len(n.Out()) != 0 {
		t.Error("not at rest")
	}
}

// 20.1: one step a command, answered in it.
func TestOneStepEach(t *testing.T) {
	n := New(store(t))
	mustRest(t, n)
	l := []exchange{
		{"PUT a 1\nx\n", "OK\n"}, {"GET a\n", "VALUE 1\nx\n"}, {"GET b\n", "NONE\n"}, {"DEL a\n", "YES\n"},
		{"SET m 1\n", "OK\n"}, {"BUMP m 1\n", "SCORE 2\n"}, {"SCORE m\n", "SCORE 2\n"}, {"PLACE m\n", "NUMBER 0\n"},
		{"SPREAD 0 9\n", "SPREAD 1 2 2 2 2\n"}, {"UNSET m\n", "YES\n"}, {"SNAP\n", "NUMBER 1\n"}, {"SNAPS\n", "NUMBERS 1 1\n"},
		{"GETAT 1 a\n", "NONE\n"}, {"DROP 1\n", "OK\n"}, {"COUNT\n", "NUMBERS 2 0 0\n"}, {"BEGIN\n", "OK\n"},
		{"SET m 1\n", "OK\n"}, {"COMMIT\n", "OK\n"}, {"CANCEL\n", "ERR ARG\n"}, {"PING\n", "OK\n"},
		{"SCAN * * 9\n", "PAIRS 0\n"}, {"RANGE 7 8 9\n", "SCORED 0\n"}, {"RANGE 0 9 0\n", "SCORED 0\n"}, {"SCANAT 1 * * 9\n", "ERR NOSNAP\n"},
		{"wrong\n", "ERR SYNTAX\n"}, {strings.Repeat("x", 258) + "\n", "ERR TOOBIG\n"},
		{"PUT a 1025\n" + strings.Repeat("y", 1026), "ERR TOOBIG\n"}, {"QUIT\n", "OK\n"},
	}
	n.Feed([]byte(whole(l).text))
	for _, x := range l {
		mustStep(t, n, x.want)
	}
	mustRest(t, n)
}

// filled is a store of so many pairs and members, whose scores are their numbers, of a device of so many words.
func filled(t *testing.T, words, many int) *core.Core {
	t.Helper()
	c, _ := fresh(t, words)
	for i := range many {
		name := "k" + strconv.Itoa(1000+i)
		e := c.Batch([]api.Op{{Kind: api.OPut, Key: name, Value: []byte("v")}, {Kind: api.OSet, Key: name, X: float64(i)}})
		if e != api.OK {
			t.Fatal(i, e)
		}
	}
	return c
}

// toldPairs is what a SCAN of a filled store tells from one pair to another.
func toldPairs(from, to int) string {
	s := "PAIRS " + strconv.Itoa(to-from) + "\n"
	for i := from; i < to; i++ {
		s += "k" + strconv.Itoa(1000+i) + " 1\nv\n"
	}
	return s
}

func toldMembers(from, to int) string {
	s := "SCORED " + strconv.Itoa(to-from) + "\n"
	for i := from; i < to; i++ {
		s += "k" + strconv.Itoa(1000+i) + " " + strconv.Itoa(i) + "\n"
	}
	return s
}

// mustTakeSteps asks that what was fed tells nothing for so many steps, then want, and that this is all.
func mustTakeSteps(t *testing.T, n *Conn, steps int, want string) {
	t.Helper()
	for range steps {
		mustStep(t, n, "")
	}
	mustStep(t, n, want)
	mustRest(t, n)
}

// 20.1: a step more for each pair or member that is told, and nothing told ahead of the last.
func TestStepsOfScans(t *testing.T) {
	c := filled(t, leastWords, 6)
	n := New(c)
	c.Snap()
	for _, x := range []struct {
		line, want string
		steps      int
	}{
		{"SCAN * * 9\n", toldPairs(0, 6), 6},
		{"SCAN * * 4\n", toldPairs(0, 4), 4},
		{"SCAN k1005 * 9\n", toldPairs(5, 6), 1},
		{"SCANAT 1 * k1002 9\n", toldPairs(0, 2), 2},
		{"RANGE -inf inf 9\n", toldMembers(0, 6), 6},
		{"RANGE 2 4 9\n", toldMembers(2, 5), 3},
		{"RANGE 2 4 1\n", toldMembers(2, 3), 1},
		{"RANGE 6 9 1\n", "SCORED 0\n", 0},
		{"SCAN * * 0\n", "PAIRS 0\n", 0},
	} {
		n.Feed([]byte(x.line))
		mustTakeSteps(t, n, x.steps, x.want)
	}
	// what is behind waits until all is told, and what is ahead can be taken meanwhile
	n.Feed([]byte("PING\nSCAN * * 2\nPING\nwrong\n"))
	for _, want := range []string{"OK\n", "", "", toldPairs(0, 2), "OK\n", "ERR SYNTAX\n"} {
		mustStep(t, n, want)
	}
	mustRest(t, n)
	n.Feed([]byte("PING\nSCAN * * 2\n"))
	for range 3 {
		n.Step()
	}
	if got := string(n.Out()); got != "OK\n" {
		t.Errorf("%q", got)
	}
	mustStep(t, n, toldPairs(0, 2))
}

// 20.1: what a scan tells is fixed in its first step, whatever the steps of others do.
func TestScansAreFixed(t *testing.T) {
	c := filled(t, leastWords, 5)
	id, _ := c.Snap()
	spoil := func() {
		for i := range 5 {
			c.Put("k"+strconv.Itoa(1000+i), []byte("changed"))
			c.Unset("k" + strconv.Itoa(1000+i))
		}
		c.Put("k", nil)
		c.Set("k", 1)
		c.Drop(id)
	}
	scans := []*Conn{New(c), New(c), New(c)}
	for i, line := range []string{"SCAN * * 9\n", "SCANAT 1 * * 9\n", "RANGE -inf inf 9\n"} {
		scans[i].Feed([]byte(line))
		mustStep(t, scans[i], "")
		mustStep(t, scans[i], "")
	}
	spoil()
	for i, want := range []string{toldPairs(0, 5), toldPairs(0, 5), toldMembers(0, 5)} {
		mustTakeSteps(t, scans[i], 3, want)
	}
	// not ahead of its first step
	n := New(c)
	n.Feed([]byte("RANGE -inf inf 9\n"))
	c.Set("l", 2)
	mustTakeSteps(t, n, 2, "SCORED 2\nk 1\nl 2\n")
}

// 20.1: a thousand are told at most, and so many steps taken.
func TestGreatScans(t *testing.T) {
	n := New(filled(t, 65536, 1003))
	for _, x := range []exchange{
		{"SCAN * * 999999999\n", toldPairs(0, 1000)},
		{"SCAN k1002 * 1001\n", toldPairs(2, 1002)},
		{"SCAN * * 999\n", toldPairs(0, 999)},
		{"RANGE -inf inf 999999999\n", toldMembers(0, 1000)},
		{"RANGE 2 inf 1001\n", toldMembers(2, 1002)},
	} {
		n.Feed([]byte(x.text))
		mustTakeSteps(t, n, min(1000, strings.Count(x.want, "k")), x.want)
	}
	if got := answers(n, "SPREAD -inf inf\nCOUNT\nPLACE k2002\n"); got != "SPREAD 1003 0 1002 502503 501\nNUMBERS 2 1003 1003\nNUMBER 1002\n" {
		t.Errorf("%q", got)
	}
}

// 20.1: a command begins when its line is there, and PUT's value.
func TestBusy(t *testing.T) {
	n := New(store(t))
	rest := func(pieces ...string) {
		t.Helper()
		for _, p := range pieces {
			n.Feed([]byte(p))
			mustRest(t, n)
		}
	}
	step := func(last, want string) {
		t.Helper()
		n.Feed([]byte(last))
		mustStep(t, n, want)
		mustRest(t, n)
	}
	rest("", "P", "ING", "\r")
	step("\n", "OK\n")
	rest("PUT a 3", "\n", "x", "\ny")
	step("\n", "OK\n")
	rest("PUT a 0\n")
	step("\n", "OK\n")
	// the byte behind a value must be there, whatever it is
	rest("PUT a 1\n", "x")
	step("G", "OK\n")
	rest("ET a")
	step("\n", "VALUE 1\nx\n")
	// what is too long or too big is told at once
	rest(strings.Repeat("x", 257))
	step("x", "ERR TOOBIG\n")
	rest("x", "PING", "\n")
	rest("PUT a 1025")
	step("\n", "ERR TOOBIG\n")
	rest(strings.Repeat("\n", 1000), strings.Repeat("\n", 26))
	step("PING\n", "OK\n")
	step("wrong\n", "ERR SYNTAX\n")
	// behind one another they wait
	n.Feed([]byte("PING\nPING\nPUT a 1\n"))
	mustStep(t, n, "OK\n")
	mustStep(t, n, "OK\n")
	mustRest(t, n)
	step("\n\n", "OK\n")
}

// 20.1, 20.2: a closed one does nothing more, and what was answered can be taken.
func TestClosed(t *testing.T) {
	for _, x := range []struct {
		text, want string
		steps      int
	}{
		{"QUIT\n", "OK\n", 1},
		{"PING\nQUIT\nPING\nPING\n", "OK\nOK\n", 2},
		{"QUIT\nQUIT\n", "OK\n", 1},
		{"BEGIN\nSET m 1\nQUIT\nCOMMIT\n", "OK\nOK\nOK\n", 3},
		{"PUT a 65537\n", "ERR TOOBIG\n", 1},
		{"PING\nPUT a 999999999\nPING\n", "OK\nERR TOOBIG\n", 2},
	} {
		c := store(t)
		n := New(c)
		n.Feed([]byte(x.text))
		for i := range x.steps {
			if n.Closed() || !n.Busy() || !n.Step() {
				t.Errorf("%q: step %d", x.text, i)
			}
		}
		if !n.Closed() || n.Busy() || n.Step() {
			t.Errorf("%q: not closed", x.text)
		}
		n.Feed([]byte("SET n 1\nPING\n"))
		if n.Busy() || n.Step() || !n.Closed() {
			t.Errorf("%q: fed behind its end", x.text)
		}
		if got := string(n.Out()); got != x.want || len(n.Out()) != 0 {
			t.Errorf("%q: %q", x.text, got)
		}
		if pairs, members, e := c.Now().Counts(); pairs != 0 || members != 0 || e != api.OK {
			t.Errorf("%q: %d %d %d", x.text, pairs, members, e)
		}
	}
	n := New(store(t))
	if got := answers(n, "nothing\nPUT a 65536\n"); got != "ERR SYNTAX\nERR TOOBIG\n" || n.Closed() {
		t.Error(got, n.Closed())
	}
}

// linesOfAll are a line of each kind, right ahead of what ends it.
func linesOfAll(t *testing.T) []string {
	t.Helper()
	var l []string
	for kind := api.KPut; kind <= api.KQuit; kind++ {
		s, e := parse.Text(parse.Command{Kind: kind, Key: "a", N: 1, ID: 1, A: 1, B: 2})
		if e != api.OK {
			t.Fatal(kind, e)
		}
		if kind == api.KPut {
			s += "\nx"
		}
		l = append(l, s)
	}
	return l
}

// 20.2: whatever the command, a dead store is answered so, and nobody listens any more.
func TestDead(t *testing.T) {
	c, d := fresh(t, leastWords)
	begun := "BEGIN\nSET m 1\n"
	var conns, batches []*Conn
	lines := linesOfAll(t)
	for range lines {
		conns = append(conns, New(c))
		n := New(c)
		if answers(n, begun) != "OK\nOK\n" {
			t.Fatal("BEGIN")
		}
		batches = append(batches, n)
	}
	kill(d)
	for i, line := range lines {
		for _, n := range []*Conn{conns[i], batches[i]} {
			n.Feed([]byte(line + "\nPING\n"))
			if n.Closed() || !n.Busy() || !n.Step() || string(n.Out()) != "ERR DEAD\n" || !n.Closed() {
				t.Error(line)
			}
			mustRest(t, n)
			n.Feed([]byte("PING\n"))
			mustRest(t, n)
		}
	}
	// what is no command is told as ever, and what did not come whole is no command
	n := New(c)
	mustRest(t, n)
	n.Feed([]byte("wrong\n" + strings.Repeat("x", 999) + "\nPUT a 1025\n" + strings.Repeat("y", 1026) + "PUT a 1\nx"))
	mustStep(t, n, "ERR SYNTAX\n")
	mustStep(t, n, "ERR TOOBIG\n")
	mustStep(t, n, "ERR TOOBIG\n")
	mustRest(t, n)
	if n.Closed() {
		t.Error("closed too early")
	}
	n.Feed([]byte("\n"))
	mustStep(t, n, "ERR DEAD\n")
	if !n.Closed() {
		t.Error("not closed")
	}
}

// 20.2: the power goes within a command.
func TestPowerGoes(t *testing.T) {
	for _, x := range []exchange{
		{"PUT b 1\nx\n", ""}, {"DEL k1000\n", ""}, {"SET b 1\n", ""}, {"BUMP b 1\n", ""}, {"UNSET k1000\n", ""}, {"SNAP\n", ""}, {"DROP 1\n", ""},
		{"BEGIN\nSET b 1\nCOMMIT\n", "OK\nOK\n"},
		// nothing is written by these
		{"GET k1000\nCOUNT\nDEL x\nBEGIN\nSET b 1\nCANCEL\nSET b 1\n", "VALUE 1\nv\nNUMBERS 2 2 2\nNO\nOK\nOK\nOK\n"},
	} {
		c, d := fresh(t, leastWords)
		for i := range 2 {
			name := "k" + strconv.Itoa(1000+i)
			c.Put(name, []byte("v"))
			c.Set(name, float64(i))
		}
		c.Snap()
		n, scan := New(c), New(c)
		scan.Feed([]byte("SCAN * * 9\nPING\n"))
		mustStep(t, scan, "")
		d.Fuse(0)
		if got := answers(n, x.text+"PING\n"); got != x.want+"ERR DEAD\n" || !n.Closed() || !c.Dead() {
			t.Errorf("%q: %q", x.text, got)
		}
		// what is under way was fixed, and goes on
		mustStep(t, scan, "")
		mustStep(t, scan, toldPairs(0, 2))
		if scan.Closed() {
			t.Error("closed too early")
		}
		mustStep(t, scan, "ERR DEAD\n")
		if !scan.Closed() {
			t.Error("not closed")
		}
	}
}

// 20.4: no store at all is as one that is dead.
func TestNoStore(t *testing.T) {
	n := New(nil)
	mustRest(t, n)
	if got := answers(n, "wrong\nPING\nPING\n"); got != "ERR SYNTAX\nERR DEAD\n" || !n.Closed() {
		t.Error(got, n.Closed())
	}
	for _, line := range linesOfAll(t) {
		if got := answers(New(nil), line+"\n"); got != "ERR DEAD\n" {
			t.Error(line, got)
		}
	}
}

// DOC.md, rule 3: what is fed is neither changed nor kept, what is taken is new memory.
func TestOwnMemory(t *testing.T) {
	c := store(t)
	n := New(c)
	room := []byte("PUT a 3\nabc\nBEGIN\nPUT b 3\nabc\nPUT c 3\nabc\nSCAN * * 9\nGET a\n")
	was := string(room)
	whole := len(was)
	for from := 0; from < whole; from += 5 {
		to := min(from+5, whole)
		n.Feed(room[from:to])
		if string(room) != was {
			t.Fatalf("%q", room)
		}
		clear(room[from:to])
		was = string(room)
	}
	for range 3 {
		n.Step()
	}
	first := n.Out()
	for i := range first[:cap(first)] {
		first[:cap(first)][i] = 'X'
	}
	if got := run(n); got != "OK\nPAIRS 1\na 3\nabc\nVALUE 3\nabc\n" {
		t.Errorf("%q", got)
	}
	if got := answers(n, "COMMIT\nSCAN * * 9\n"); got != "OK\nPAIRS 3\na 3\nabc\nb 3\nabc\nc 3\nabc\n" {
		t.Errorf("%q", got)
	}
	if string(first[:cap(first)]) != strings.Repeat("X", cap(first)) {
		t.Errorf("%q", first)
	}
}

// held is how much memory is in use.
func held() int {
	runtime.GC()
	runtime.GC()
	var m runtime.MemStats
	runtime.ReadMemStats(&m)
	return int(m.HeapAlloc)
}

// 20.2: what is left out is not held, nor room for what did not come, nor anything of a closed one's.
func TestNoMoreThanCame(t *testing.T) {
	c := store(t)
	const many = 4096
	for _, x := range []struct {
		name, first, piece string
		done               bool // each piece is done as it comes
	}{
		{"line without an end", "", strings.Repeat("x", many), false},
		{"lines too long", "", strings.Repeat("x", many-1) + "\n", true},
		{"values too big", "", "PUT a 4080\n" + strings.Repeat("x", 4081), true},
		{"answers", "", strings.Repeat("PING\n", many/5), true},
		{"closed", "QUIT\n", strings.Repeat("x", many), true},
		{"behind the end", "QUIT\n" + strings.Repeat("PING\n", 4*many), "x", true},
	} {
		conns := make([]*Conn, 20)
		before := held()
		for i := range conns {
			n := New(c)
			answers(n, x.first)
			for range 20 {
				n.Feed([]byte(x.piece))
				if x.done {
					run(n)
				}
			}
			conns[i] = n
		}
		if more := held() - before; more > len(conns)*2*many {
			t.Errorf("%s: %d bytes are held", x.name, more)
		}
		runtime.KeepAlive(conns)
	}
	conns := make([]*Conn, 1000)
	before := held()
	for i := range conns {
		conns[i] = New(c)
		answers(conns[i], "PUT a 1024\n")
	}
	if more := held() - before; more > len(conns)*1000 {
		t.Errorf("values that did not come: %d bytes are held", more)
	}
	runtime.KeepAlive(conns)
}

// 20.4, W9: commands upon commands are done one behind the other, however many.
func TestManyCommands(t *testing.T) {
	n := New(store(t))
	const many = 50000
	got := answers(n, strings.Repeat("PING\nx\n", many))
	if got != strings.Repeat("OK\nERR SYNTAX\n", many) {
		t.Error(len(got))
	}
	l, e := reply.Parse(got)
	if len(l) != 2*many || e != api.OK {
		t.Error(len(l), e)
	}
}
