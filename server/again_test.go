package server

import (
	"strconv"
	"testing"

	"reliquary/api"
	"reliquary/nvm"
)

// kill lets the power of a device go.
func kill(d *nvm.Device) {
	d.Fuse(0)
	func() {
		defer func() { recover() }()
		d.Fence()
	}()
}

// spoil writes words that no store wrote.
func spoil(d *nvm.Device) {
	for i := d.Words() / 2; i < d.Words(); i++ {
		d.Store(i, 12345678901)
	}
	for i := 12400; i < 12500; i++ {
		d.Store(i, 12345678901)
	}
}

// mustBeDead asks that all calls that answer an error say so, whatever they are given.
func mustBeDead(t *testing.T, s *Server) {
	t.Helper()
	for _, id := range []int{1, 2, 9, 99, 0, 100, -1} {
		what := strconv.Itoa(id)
		mustBe(t, what+" Open", s.Open(id), api.ErrDead)
		mustBe(t, what+" Send", s.Send(id, nil), api.ErrDead)
		mustBe(t, what+" Send of too many", s.Send(id, make([]byte, 4097)), api.ErrDead)
		did, e := s.Pick(id)
		mustBe(t, what+" Pick", e, api.ErrDead)
		b, e := s.Take(id)
		mustBe(t, what+" Take", e, api.ErrDead)
		mustBe(t, what+" Hang", s.Hang(id), api.ErrDead)
		if did || len(b) != 0 {
			t.Error(what, did, b)
		}
	}
	for _, n := range []int{-1, 0, 1, 99999} {
		mustRun(t, s, n, 0)
	}
	if s.Core() == nil || !s.Core().Dead() {
		t.Error("Core")
	}
}

// 21.2: Again ends all connections; the store stands.
func TestAgain(t *testing.T) {
	s := with(t, 1, 2, 3)
	mustSend(t, s, 1, "PUT a 1\nx\nSET m 3\nSNAP\nDEL a\nBEGIN\nSET m 4\n")
	mustSend(t, s, 2, "QUIT\n")
	mustSend(t, s, 3, "PI")
	mustRun(t, s, 9, 6)
	old := s.Core()
	mustBe(t, "Again", s.Again(), api.OK)
	mustHave(t, s)
	if s.Core() == old || s.Core().Dead() {
		t.Error("Core")
	}
	mustBe(t, "Send", s.Send(1, nil), api.ErrNone)
	_, e := s.Take(2)
	mustBe(t, "Take", e, api.ErrNone)
	mustOpen(t, s, 1, 3)
	mustSend(t, s, 3, "NG\nPING\n")
	mustSend(t, s, 1, "COMMIT\nGET a\nSCORE m\nGETAT 1 a\nSNAPS\nSNAP\n")
	mustRun(t, s, 9, 6)
	mustTake(t, s, 1, "ERR ARG\nNONE\nSCORE 3\nVALUE 1\nx\nNUMBERS 1 1\nNUMBER 2\n")
	mustTake(t, s, 3, "ERR SYNTAX\nOK\n")
	mustBe(t, "Check", s.Core().Check(), api.OK)
}

// 21.2: from the loss of power on all is dead, until Again went well; it does not, as long as the power is gone.
func TestDead(t *testing.T) {
	for _, byCommand := range []bool{true, false} {
		s, d := fresh(t)
		mustOpen(t, s, 1, 2, 3)
		mustSend(t, s, 1, "PUT k 1\nv\nPING\nSET m 1\nPING\n")
		mustSend(t, s, 2, "SCAN * * 9\n")
		mustSend(t, s, 3, "PING\nPING\n")
		mustPick(t, s, 1, true)
		mustPick(t, s, 1, true)
		mustPick(t, s, 2, true)
		if byCommand {
			d.Fuse(2)
			// the step in which it goes is one like any other
			mustPick(t, s, 1, true)
		} else {
			kill(d)
		}
		mustBeDead(t, s)
		mustHave(t, s, 1, 2, 3)
		for range 2 {
			mustBe(t, "Again", s.Again(), api.ErrDead)
			mustHave(t, s)
			mustBeDead(t, s)
		}
		d.Power(false, nil)
		mustBeDead(t, s)
		mustHave(t, s)
		mustBe(t, "Again", s.Again(), api.OK)
		mustHave(t, s)
		if got := asked(t, s, "GET k\nSCORE m\n"); got != "VALUE 1\nv\nNONE\n" {
			t.Errorf("%q", got)
		}
		mustBe(t, "Check", s.Core().Check(), api.OK)
	}
}

// 21.2: who was there when the power went is gone, also if the power is back ahead of Again.
func TestPowerAheadOfAgain(t *testing.T) {
	s, d := fresh(t)
	mustOpen(t, s, 1, 2)
	d.Fuse(0)
	mustSend(t, s, 2, "SET m 1\n")
	mustPick(t, s, 2, true)
	d.Power(true, nil)
	mustBeDead(t, s)
	mustHave(t, s, 1, 2)
	mustBe(t, "Again", s.Again(), api.OK)
	mustHave(t, s)
	mustOpen(t, s, 2)
	mustPick(t, s, 2, false)
	mustTake(t, s, 2, "")
}

// 21.1, 21.2: a Run in which the power goes ends as any other: who is about a scan is told its steps, all others are closed.
func TestPowerGoesInARun(t *testing.T) {
	s, d := fresh(t)
	for _, k := range []string{"a", "b", "c"} {
		mustBe(t, "Put", s.Core().Put(k, nil), api.OK)
	}
	mustOpen(t, s, 1, 2, 3)
	mustSend(t, s, 1, "SCAN * * 9\nPING\nPING\n")
	mustSend(t, s, 2, "SET m 1\nPING\nPING\n")
	mustSend(t, s, 3, "PING\nPING\nPING\n")
	d.Fuse(0)
	// the scan's first step and three behind it, then one PING
	mustRun(t, s, 99, 5)
	mustBeDead(t, s)
}

// 21.2: the power may go within Again, as often as it will.
func TestPowerGoesInAgain(t *testing.T) {
	s, d := fresh(t)
	mustBe(t, "Put", s.Core().Put("k", []byte("v")), api.OK)
	again := 0
	for fuse := 0; ; fuse++ {
		// What a pin alone held is swept away: that takes steps.
		if _, e := s.Core().Pin(); e != api.OK {
			t.Fatal(e)
		}
		mustBe(t, "Put", s.Core().Put("k", []byte("w"+strconv.Itoa(fuse))), api.OK)
		mustOpen(t, s, 1)
		d.Fuse(fuse)
		if e := s.Again(); e == api.OK {
			break
		} else if e != api.ErrDead {
			t.Fatal(fuse, e)
		}
		again++
		mustHave(t, s)
		// The old store was not asked since: it must know all the same.
		d.Power(fuse%2 == 0, nil)
		mustBeDead(t, s)
		mustBe(t, "Again", s.Again(), api.OK)
		if got, want := asked(t, s, "GET k\n"), "w"+strconv.Itoa(fuse); got != "VALUE "+strconv.Itoa(len(want))+"\n"+want+"\n" {
			t.Fatalf("%d: %q", fuse, got)
		}
		mustBe(t, "Check", s.Core().Check(), api.OK)
	}
	if again < 5 {
		t.Error("the power hardly ever went:", again)
	}
	d.Fuse(-1)
	mustHave(t, s)
	mustBe(t, "Check", s.Core().Check(), api.OK)
}

// 21.2: where Again fails though the power is there, the old store is not dead, and goes on.
func TestAgainOfSpoiltWords(t *testing.T) {
	s, d := fresh(t)
	mustOpen(t, s, 1)
	old := s.Core()
	spoil(d)
	mustBe(t, "Again", s.Again(), api.ErrForm)
	mustHave(t, s)
	if s.Core() != old {
		t.Error("another Core")
	}
	if got := asked(t, s, "PING\n"); got != "OK\n" {
		t.Errorf("%q", got)
	}
}
