package server

import (
	"math"
	"slices"
	"strconv"
	"strings"
	"testing"

	"reliquary/api"
	"reliquary/nvm"
)

const leastWords = 32768

func device(t *testing.T, words int) *nvm.Device {
	t.Helper()
	d, e := nvm.New(words)
	if e != api.OK {
		t.Fatal(e)
	}
	return d
}

func fresh(t *testing.T) (*Server, *nvm.Device) {
	t.Helper()
	d := device(t, leastWords)
	s, e := New(d)
	if e != api.OK {
		t.Fatal(e)
	}
	return s, d
}

// with is a server with these connections.
func with(t *testing.T, ids ...int) *Server {
	t.Helper()
	s, _ := fresh(t)
	mustOpen(t, s, ids...)
	return s
}

func mustOpen(t *testing.T, s *Server, ids ...int) {
	t.Helper()
	for _, id := range ids {
		if e := s.Open(id); e != api.OK {
			t.Fatal(id, e)
		}
	}
}

func mustSend(t *testing.T, s *Server, id int, text string) {
	t.Helper()
	if e := s.Send(id, []byte(text)); e != api.OK {
		t.Fatal(id, e)
	}
}

// mustTake asks what a connection was answered.
func mustTake(t *testing.T, s *Server, id int, want string) {
	t.Helper()
	if b, e := s.Take(id); string(b) != want || e != api.OK {
		t.Errorf("%d: %q %d, not %q", id, b, e, want)
	}
}

func mustPick(t *testing.T, s *Server, id int, want bool) {
	t.Helper()
	if did, e := s.Pick(id); did != want || e != api.OK {
		t.Errorf("%d: %v %d, not %v", id, did, e, want)
	}
}

func mustRun(t *testing.T, s *Server, rounds, want int) {
	t.Helper()
	if did := s.Run(rounds); did != want {
		t.Errorf("Run(%d): %d, not %d", rounds, did, want)
	}
}

func mustHave(t *testing.T, s *Server, ids ...int) {
	t.Helper()
	if got := s.Conns(); !slices.Equal(got, ids) {
		t.Errorf("%d, not %d", got, ids)
	}
}

func mustBe(t *testing.T, what string, got, want api.Errno) {
	t.Helper()
	if got != want {
		t.Errorf("%s: %d, not %d", what, got, want)
	}
}

// asked is what a new connection is answered.
func asked(t *testing.T, s *Server, text string) string {
	t.Helper()
	mustOpen(t, s, 42)
	mustSend(t, s, 42, text)
	s.Run(mostRounds)
	b, e := s.Take(42)
	if e != api.OK {
		t.Fatal(e)
	}
	mustBe(t, "Hang", s.Hang(42), api.OK)
	return string(b)
}

// 21.1: New answers what core.Open does.
func TestNew(t *testing.T) {
	dead := device(t, leastWords)
	kill(dead)
	spoilt := device(t, leastWords)
	spoil(spoilt)
	for _, x := range []struct {
		what string
		d    *nvm.Device
		want api.Errno
	}{
		{"none", nil, api.ErrArg}, {"least", device(t, 8), api.ErrArg}, {"too small", device(t, leastWords-8), api.ErrArg},
		{"dead", dead, api.ErrDead}, {"spoilt", spoilt, api.ErrForm},
	} {
		if s, e := New(x.d); s != nil || e != x.want {
			t.Error(x.what, s, e)
		}
	}
	s, d := fresh(t)
	mustHave(t, s)
	mustRun(t, s, 9, 0)
	if s.Core() == nil || s.Core().Dead() || s.Core().Check() != api.OK {
		t.Error("Core")
	}
	mustBe(t, "Put", s.Core().Put("k", []byte("v")), api.OK)
	if got := asked(t, s, "GET k\n"); got != "VALUE 1\nv\n" {
		t.Errorf("%q", got)
	}
	// as it stood
	s, e := New(d)
	if got := asked(t, s, "GET k\n"); got != "VALUE 1\nv\n" || e != api.OK {
		t.Errorf("%q %d", got, e)
	}
}

// 21.1: the numbers of connections, and how many there may be.
func TestOpen(t *testing.T) {
	s, _ := fresh(t)
	wrong := func() {
		t.Helper()
		for _, id := range []int{0, 100, -1, 1000, math.MaxInt, math.MinInt} {
			mustBe(t, strconv.Itoa(id), s.Open(id), api.ErrArg)
		}
	}
	wrong()
	mustHave(t, s)
	mustOpen(t, s, 99, 1, 50)
	mustHave(t, s, 1, 50, 99)
	mustBe(t, "there", s.Open(50), api.ErrThere)
	mustOpen(t, s, 2, 98, 40, 60, 7)
	// eight: what is wrong by itself comes first
	wrong()
	for _, id := range s.Conns() {
		mustBe(t, "there of eight", s.Open(id), api.ErrThere)
	}
	mustBe(t, "the ninth", s.Open(3), api.ErrMany)
	mustHave(t, s, 1, 2, 7, 40, 50, 60, 98, 99)
	// who has gone leaves room
	mustBe(t, "Hang", s.Hang(60), api.OK)
	mustOpen(t, s, 3)
	mustBe(t, "the ninth again", s.Open(60), api.ErrMany)
	mustHave(t, s, 1, 2, 3, 7, 40, 50, 98, 99)
}

// 21.1: a connection that is there already is left as it is by Open.
func TestOpenOfOneThere(t *testing.T) {
	s := with(t, 5)
	mustSend(t, s, 5, "BEGIN\nSET m 1\nPUT a 3\nab")
	mustRun(t, s, 9, 2)
	mustBe(t, "Open", s.Open(5), api.ErrThere)
	mustSend(t, s, 5, "c\nCOMMIT\nGET a\n")
	mustRun(t, s, 9, 3)
	mustTake(t, s, 5, "OK\nOK\nOK\nOK\nVALUE 3\nabc\n")
}

// 21.1: a number that nobody has.
func TestNobody(t *testing.T) {
	s := with(t, 1)
	mustSend(t, s, 1, "PING\n")
	for _, id := range []int{2, 99, 0, 100, -1, math.MaxInt, math.MinInt} {
		what := strconv.Itoa(id)
		mustBe(t, what+" Send", s.Send(id, []byte("PING\n")), api.ErrNone)
		mustBe(t, what+" Send of too many", s.Send(id, make([]byte, 5000)), api.ErrNone)
		did, e := s.Pick(id)
		mustBe(t, what+" Pick", e, api.ErrNone)
		b, e := s.Take(id)
		mustBe(t, what+" Take", e, api.ErrNone)
		mustBe(t, what+" Hang", s.Hang(id), api.ErrNone)
		if did || len(b) != 0 {
			t.Error(what, did, b)
		}
	}
	mustHave(t, s, 1)
	mustRun(t, s, 9, 1)
	mustTake(t, s, 1, "OK\n")
}

// 21.1: so many bytes at once and no more; nothing of what is too much comes.
func TestSend(t *testing.T) {
	s := with(t, 1, 2)
	most := strings.Repeat("PING\n", 819) + "P"
	mustSend(t, s, 1, most)
	for _, n := range []int{4097, 5000, 1 << 20} {
		mustBe(t, strconv.Itoa(n), s.Send(1, []byte(strings.Repeat("\n", n))), api.ErrArg)
	}
	mustSend(t, s, 1, "")
	mustBe(t, "nil", s.Send(1, nil), api.OK)
	mustSend(t, s, 1, "ING\n")
	mustRun(t, s, mostRounds, 820)
	mustTake(t, s, 1, strings.Repeat("OK\n", 820))
	mustTake(t, s, 2, "")
}

// 21.1: what is sent is neither changed nor kept.
func TestSendCopies(t *testing.T) {
	s := with(t, 1)
	b := append(make([]byte, 0, 64), "PUT a 2\nhi\nGET a\nPI"...)
	was := slices.Clone(b[:cap(b)])
	mustBe(t, "Send", s.Send(1, b), api.OK)
	mustSend(t, s, 1, "NG\n")
	if !slices.Equal(b[:cap(b)], was) {
		t.Errorf("%q", b[:cap(b)])
	}
	clear(b[:cap(b)])
	mustRun(t, s, 9, 3)
	mustTake(t, s, 1, "OK\nVALUE 2\nhi\nOK\n")
}

// 21.1: Pick does one step, of that connection alone.
func TestPick(t *testing.T) {
	s := with(t, 1, 2)
	mustPick(t, s, 1, false)
	mustSend(t, s, 1, "PUT a 1\nx\nPUT b 1\ny\nSCAN * * 9\nPING\nPI")
	mustSend(t, s, 2, "PING\n")
	for _, want := range []string{"OK\n", "OK\n", "", "", "PAIRS 2\na 1\nx\nb 1\ny\n", "OK\n"} {
		mustPick(t, s, 1, true)
		mustTake(t, s, 1, want)
	}
	mustPick(t, s, 1, false)
	mustTake(t, s, 2, "")
	mustPick(t, s, 2, true)
	mustTake(t, s, 2, "OK\n")
	mustPick(t, s, 2, false)
}

// 21.1: what was answered is taken once, and is new memory.
func TestTake(t *testing.T) {
	s := with(t, 1)
	mustSend(t, s, 1, "PING\n")
	mustTake(t, s, 1, "")
	mustRun(t, s, 9, 1)
	b, _ := s.Take(1)
	mustTake(t, s, 1, "")
	mustSend(t, s, 1, "SNAPS\n")
	mustRun(t, s, 9, 1)
	if string(b) != "OK\n" {
		t.Errorf("%q", b)
	}
	clear(b[:cap(b)])
	mustTake(t, s, 1, "NUMBERS 0\n")
}

// 21.1: a connection that is closed stands, and can be taken from, until it is hung.
func TestClosed(t *testing.T) {
	s := with(t, 1, 2, 3, 4, 5, 6, 7, 8)
	mustSend(t, s, 3, "PING\nQUIT\nPING\n")
	mustRun(t, s, 9, 2)
	mustSend(t, s, 3, "PING\n")
	mustPick(t, s, 3, false)
	mustRun(t, s, 9, 0)
	mustBe(t, "Open", s.Open(3), api.ErrThere)
	mustBe(t, "Open of one more", s.Open(9), api.ErrMany)
	mustBe(t, "Send of too many", s.Send(3, make([]byte, 4097)), api.ErrArg)
	mustTake(t, s, 3, "OK\nOK\n")
	mustTake(t, s, 3, "")
	mustBe(t, "Hang", s.Hang(3), api.OK)
	mustOpen(t, s, 3)
	mustSend(t, s, 3, "PING\n")
	mustRun(t, s, 9, 1)
	mustTake(t, s, 3, "OK\n")
}

// 21.1: who is hung is gone with all that it was about; who comes by the same number begins anew.
func TestHang(t *testing.T) {
	for _, text := range []string{
		"PING\n", "PI", "PUT a 3\nab", "PUT a 3\nabc\n", "SCAN * * 9\nPING\n", "BEGIN\nSET n 1\nUNSET m\nDEL k\n", "QUIT\n",
		strings.Repeat("x", 300), "PUT a 1500\nyy", "PUT a 70000\n", "RANGE 0 9 9\n",
	} {
		for steps := range 5 {
			s := with(t, 1, 2)
			mustSend(t, s, 2, "PUT k 1\nv\nSET m 5\n")
			mustRun(t, s, 9, 2)
			mustTake(t, s, 2, "OK\nOK\n")
			mustSend(t, s, 1, text)
			for range steps {
				s.Pick(1)
			}
			mustBe(t, "Hang", s.Hang(1), api.OK)
			mustHave(t, s, 2)
			_, e := s.Pick(1)
			mustBe(t, "Pick", e, api.ErrNone)
			mustBe(t, "Hang again", s.Hang(1), api.ErrNone)
			mustOpen(t, s, 1)
			mustRun(t, s, 9, 0)
			mustTake(t, s, 1, "")
			mustSend(t, s, 1, "COMMIT\nGET k\nSCORE m\nSCORE n\n")
			mustRun(t, s, 9, 4)
			mustTake(t, s, 1, "ERR ARG\nVALUE 1\nv\nSCORE 5\nNONE\n")
		}
	}
}

// 21.1: what a command did stands, though its client was hung ahead of the answer.
func TestHangBehindAStep(t *testing.T) {
	s := with(t, 1)
	mustSend(t, s, 1, "PUT k 1\nv\nDEL k\n")
	mustPick(t, s, 1, true)
	mustBe(t, "Hang", s.Hang(1), api.OK)
	if got := asked(t, s, "GET k\n"); got != "VALUE 1\nv\n" {
		t.Errorf("%q", got)
	}
}

// 21.1: rounds are counted as long as one has something to do, and no more are done than were asked for.
func TestRun(t *testing.T) {
	s := with(t, 3, 1, 2)
	for _, n := range []int{0, 1, -1, 9, math.MaxInt, math.MinInt} {
		mustRun(t, s, n, 0)
	}
	send := func() {
		mustSend(t, s, 1, "PING\nPING\n")
		mustSend(t, s, 2, "PING\nPING\nPING\nPING\n")
	}
	send()
	for _, n := range []int{0, -1, -9999, math.MinInt} {
		mustRun(t, s, n, 0)
	}
	mustTake(t, s, 1, "")
	mustRun(t, s, 1, 1)
	mustTake(t, s, 1, "OK\n")
	mustTake(t, s, 2, "OK\n")
	mustRun(t, s, 2, 2)
	mustTake(t, s, 1, "OK\n")
	mustTake(t, s, 2, "OK\nOK\n")
	mustRun(t, s, 9, 1)
	mustTake(t, s, 2, "OK\n")
	mustRun(t, s, 9, 0)
	send()
	mustRun(t, s, 4, 4)
	send()
	mustRun(t, s, math.MaxInt, 4)
	mustTake(t, s, 2, strings.Repeat("OK\n", 8))
	// a scan has something to do in each of its steps
	mustSend(t, s, 1, "SET a 1\nSET b 2\nRANGE 0 9 9\n")
	mustRun(t, s, 9, 5)
	mustTake(t, s, 3, "")
}

// 21.1: ten thousand rounds are the most.
func TestRunEnds(t *testing.T) {
	s := with(t, 1, 2)
	many := strings.Repeat("PING\n", 800)
	for range 13 {
		mustSend(t, s, 1, many)
	}
	mustSend(t, s, 2, "PING\n")
	mustRun(t, s, 99999, 10000)
	mustTake(t, s, 1, strings.Repeat("OK\n", 10000))
	mustRun(t, s, 10001, 400)
	for range 13 {
		mustSend(t, s, 1, many)
	}
	mustRun(t, s, 10000, 10000)
	mustRun(t, s, 9, 9)
	for range 13 {
		mustSend(t, s, 1, many)
	}
	mustRun(t, s, math.MaxInt, 10000)
}

// 21.1, 21.3: in a round each has one step, by rising numbers, whenever it was opened and whatever it was sent.
func TestRunByRisingNumbers(t *testing.T) {
	ids := []int{77, 3, 99, 10, 1, 42, 8, 20}
	s := with(t, ids...)
	for _, id := range ids {
		mustSend(t, s, id, "BUMP m 1\nBUMP m 1\nBUMP m 1\n")
	}
	slices.Sort(ids)
	mustRun(t, s, 2, 2)
	for i, id := range ids {
		mustTake(t, s, id, "SCORE "+strconv.Itoa(i+1)+"\nSCORE "+strconv.Itoa(i+9)+"\n")
	}
	mustPick(t, s, 20, true)
	mustRun(t, s, 9, 1)
	mustTake(t, s, 20, "SCORE 17\n")
	mustTake(t, s, 99, "SCORE 24\n")
	mustTake(t, s, 1, "SCORE 18\n")
}

// 21.1: the list of numbers is the caller's.
func TestConns(t *testing.T) {
	s := with(t, 9, 2, 7)
	l := s.Conns()
	clear(l)
	l = append(l, 5)
	mustHave(t, s, 2, 7, 9)
	s.Hang(7)
	mustHave(t, s, 2, 9)
	s.Hang(2)
	s.Hang(9)
	mustHave(t, s)
}

// 21.1: what is done through Core is seen by the connections, and the other way round.
func TestCore(t *testing.T) {
	s := with(t, 1)
	mustBe(t, "Put", s.Core().Put("a", []byte("x")), api.OK)
	mustSend(t, s, 1, "GET a\nSET m 2\nSNAP\n")
	mustRun(t, s, 9, 3)
	mustTake(t, s, 1, "VALUE 1\nx\nOK\nNUMBER 1\n")
	x, there, e := s.Core().Now().Score("m")
	l, e2 := s.Core().Snaps()
	if x != 2 || !there || e != api.OK || e2 != api.OK || !slices.Equal(l, []int{1}) {
		t.Error(x, there, e, l, e2)
	}
}
