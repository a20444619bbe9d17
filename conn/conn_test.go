package conn

import (
	"strconv"
	"strings"
	"testing"

	"reliquary/api"
	"reliquary/core"
	"reliquary/nvm"
)

const leastWords = 32768

func opened(t *testing.T, d *nvm.Device) *core.Core {
	t.Helper()
	c, e := core.Open(d)
	if e != api.OK {
		t.Fatal(e)
	}
	return c
}

func fresh(t *testing.T, words int) (*core.Core, *nvm.Device) {
	t.Helper()
	d, e := nvm.New(words)
	if e != api.OK {
		t.Fatal(e)
	}
	return opened(t, d), d
}

func store(t *testing.T) *core.Core {
	t.Helper()
	c, _ := fresh(t, leastWords)
	return c
}

// kill lets the power of a device go.
func kill(d *nvm.Device) {
	d.Fuse(0)
	func() {
		defer func() { recover() }()
		d.Fence()
	}()
}

// run steps until nothing is left to do, and tells what was answered.
func run(n *Conn) string {
	for n.Step() {
	}
	return string(n.Out())
}

// answers are those to a text that comes at once.
func answers(n *Conn, text string) string {
	n.Feed([]byte(text))
	return run(n)
}

// inPieces are the answers to a text that comes in pieces of a size, each done ahead of the next.
func inPieces(n *Conn, text string, size int) string {
	var out strings.Builder
	for len(text) > 0 {
		k := min(size, len(text))
		out.WriteString(answers(n, text[:k]))
		text = text[k:]
	}
	return out.String()
}

// exchange is what a client sends, and what it is answered.
type exchange struct {
	text, want string
}

// whole puts several exchanges together.
func whole(l []exchange) exchange {
	var x exchange
	for _, y := range l {
		x.text += y.text
		x.want += y.want
	}
	return x
}

// mustAnswer asks for an exchange of a client of a new store, in pieces of several sizes.
func mustAnswer(t *testing.T, x exchange) {
	t.Helper()
	for _, size := range []int{1, 2, 7, 300, len(x.text)} {
		c := store(t)
		if got := inPieces(New(c), x.text, max(size, 1)); got != x.want {
			t.Errorf("%.90q in pieces of %d: %.300q, not %.300q", x.text, size, got, x.want)
		}
		if e := c.Check(); e != api.OK {
			t.Errorf("%.90q: Check %d", x.text, e)
		}
	}
}

func put(key, value string) string {
	return "PUT " + key + " " + strconv.Itoa(len(value)) + "\n" + value + "\n"
}

// pairs are put: three of them, and what tells them.
var pairs = exchange{put("a", "x") + put("b", "") + put("c", "y\nz"), "OK\nOK\nOK\n"}

const (
	toldA = "a 1\nx\n"
	toldB = "b 0\n\n"
	toldC = "c 3\ny\nz\n"
)

// members are set, with minus nought and an infinity among them.
var members = exchange{"SET m 3\nSET n -0\nSET o inf\nSET p 0\n", "OK\nOK\nOK\nOK\n"}

// 20.1, 20.3: each command as it is answered.
func TestEachCommand(t *testing.T) {
	for _, l := range [][]exchange{
		{{"PING\n", "OK\n"}},
		{pairs, {"GET a\nGET b\nGET c\nGET d\n", "VALUE 1\nx\nVALUE 0\n\nVALUE 3\ny\nz\nNONE\n"}},
		{pairs, {put("a", "new") + "GET a\n", "OK\nVALUE 3\nnew\n"}},
		{pairs, {"DEL a\nDEL a\nGET a\nDEL x\n", "YES\nNO\nNONE\nNO\n"}},
		{pairs, {"SCAN * * 9\n", "PAIRS 3\n" + toldA + toldB + toldC}},
		{pairs, {"SCAN b * 9\nSCAN * b 9\nSCAN b c 9\n", "PAIRS 2\n" + toldB + toldC + "PAIRS 1\n" + toldA + "PAIRS 1\n" + toldB}},
		{pairs, {"SCAN * * 2\nSCAN * * 0\nSCAN c a 9\nSCAN d * 9\n", "PAIRS 2\n" + toldA + toldB + "PAIRS 0\nPAIRS 0\nPAIRS 0\n"}},
		{pairs, {"SCAN * * 999999999\n", "PAIRS 3\n" + toldA + toldB + toldC}},
		{members, {"SCORE m\nSCORE n\nSCORE o\nSCORE p\nSCORE x\n", "SCORE 3\nSCORE -0\nSCORE inf\nSCORE 0\nNONE\n"}},
		{members, {"SET m -inf\nSCORE m\n", "OK\nSCORE -inf\n"}},
		{members, {"BUMP m 2\nBUMP x -1\nBUMP m 0x3fe0000000000000\n", "SCORE 5\nSCORE -1\nSCORE 0x4016000000000000\n"}},
		{members, {"BUMP o -inf\nSCORE o\n", "ERR NAN\nSCORE inf\n"}},
		{members, {"UNSET m\nUNSET m\nSCORE m\nUNSET x\n", "YES\nNO\nNONE\nNO\n"}},
		{members, {"RANGE -inf inf 9\n", "SCORED 4\nn -0\np 0\nm 3\no inf\n"}},
		{members, {"RANGE 0 3 9\nRANGE -0 3 2\nRANGE 3 0 9\nRANGE 0 3 0\n", "SCORED 2\np 0\nm 3\nSCORED 2\nn -0\np 0\nSCORED 0\nSCORED 0\n"}},
		{members, {"PLACE n\nPLACE p\nPLACE m\nPLACE o\nPLACE x\n", "NUMBER 0\nNUMBER 1\nNUMBER 2\nNUMBER 3\nNONE\n"}},
		{members, {"SPREAD -0 3\nSPREAD 4 5\nSPREAD 0 inf\n", "SPREAD 3 -0 3 3 1\nSPREAD 0 inf -inf 0 nan\nSPREAD 3 0 inf inf inf\n"}},
		{pairs, members, {"COUNT\nDEL a\nCOUNT\n", "NUMBERS 2 3 4\nYES\nNUMBERS 2 2 4\n"}},
		{{"COUNT\nSNAPS\nSCAN * * 9\nRANGE -inf inf 9\n", "NUMBERS 2 0 0\nNUMBERS 0\nPAIRS 0\nSCORED 0\n"}},
		{{"PING\nQUIT\nPING\n", "OK\nOK\n"}},
	} {
		mustAnswer(t, whole(l))
	}
}

// 20.1: snapshots by their numbers.
func TestSnapshots(t *testing.T) {
	for _, l := range [][]exchange{
		{pairs, {"SNAP\nDEL a\n" + put("b", "new"), "NUMBER 1\nYES\nOK\n"},
			{"GETAT 1 a\nGETAT 1 b\nGETAT 1 x\nGET b\n", "VALUE 1\nx\nVALUE 0\n\nNONE\nVALUE 3\nnew\n"},
			{"SCANAT 1 * * 9\nSCANAT 1 * c 1\nSCANAT 1 c * 5\nSCANAT 1 d * 5\n", "PAIRS 3\n" + toldA + toldB + toldC + "PAIRS 1\n" + toldA + "PAIRS 1\n" + toldC + "PAIRS 0\n"}},
		{{"GETAT 1 a\nGETAT 0 a\nSCANAT 1 * * 9\nSCANAT 999999999 * * 0\nDROP 1\nDROP 0\n", strings.Repeat("ERR NOSNAP\n", 6)}},
		{{"SNAP\nSNAP\nSNAPS\nDROP 1\nSNAPS\nDROP 1\nSNAP\nSNAPS\nGETAT 1 a\nGETAT 3 a\n", "NUMBER 1\nNUMBER 2\nNUMBERS 2 1 2\nOK\nNUMBERS 1 2\nERR NOSNAP\nNUMBER 3\nNUMBERS 2 2 3\nERR NOSNAP\nNONE\n"}},
		{{strings.Repeat("SNAP\n", 9) + "DROP 4\nSNAP\n", "NUMBER 1\nNUMBER 2\nNUMBER 3\nNUMBER 4\nNUMBER 5\nNUMBER 6\nNUMBER 7\nNUMBER 8\nERR MANY\nOK\nNUMBER 9\n"}},
	} {
		mustAnswer(t, whole(l))
	}
}

// 20.1: lines that are too long or wrong, whatever is done behind them.
func TestWrongLines(t *testing.T) {
	long := strings.Repeat("x", 256)
	for _, x := range []exchange{
		{long + "\nPING\n", "ERR SYNTAX\nOK\n"},
		{long + "\r\nPING\n", "ERR SYNTAX\nOK\n"},
		{long + "x\nPING\n", "ERR TOOBIG\nOK\n"},
		{long + "x\r\nPING\n", "ERR TOOBIG\nOK\n"},
		{long + "\r\r\nPING\n", "ERR TOOBIG\nOK\n"},
		{strings.Repeat(long, 20) + "\nPING\n" + long + long + "\nPING\n", "ERR TOOBIG\nOK\nERR TOOBIG\nOK\n"},
		{"GET " + strings.Repeat("k", 64) + "\nGET " + strings.Repeat("k", 65) + "\n", "NONE\nERR SYNTAX\n"},
		{"\n\r\n \nPING\r\n", "ERR SYNTAX\nERR SYNTAX\nERR SYNTAX\nOK\n"},
		{"ping\nPING \n PING\nPING 1\nPING\n", "ERR SYNTAX\nERR SYNTAX\nERR SYNTAX\nERR SYNTAX\nOK\n"},
		{"SET m nan\nSET m 1.5\nBUMP m nan\nSET m\nCOUNT\n", "ERR SYNTAX\nERR SYNTAX\nERR SYNTAX\nERR SYNTAX\nNUMBERS 2 0 0\n"},
		// no value is awaited behind a PUT that is none
		{"PUT a 03\nPING\nPUT a\nPING\nPUT a -1\nPING\nPUT a 1000000000\nPING\n", strings.Repeat("ERR SYNTAX\nOK\n", 4)},
		{"\x00\xff\nPING\n", "ERR SYNTAX\nOK\n"},
	} {
		mustAnswer(t, x)
	}
}

// 20.1: values by their length, whatever their bytes are and whatever is behind them.
func TestValues(t *testing.T) {
	big := strings.Repeat("\n", 1024)
	for _, x := range []exchange{
		{"PUT a 2\nhi\nGET a\n", "OK\nVALUE 2\nhi\n"},
		{"PUT a 5\r\nPING\n\nGET a\r\n", "OK\nVALUE 5\nPING\n\n"},
		{"PUT a 0\n\nGET a\n", "OK\nVALUE 0\n\n"},
		{"PUT a 0\nGET a\n", "OK\nVALUE 0\n\n"},
		{"PUT a 1\nxGET a\n", "OK\nVALUE 1\nx\n"},
		{"PUT a 1\nx\r\nGET a\n", "OK\nERR SYNTAX\nVALUE 1\nx\n"},
		{"PUT a 1\nx\n\nGET a\n", "OK\nERR SYNTAX\nVALUE 1\nx\n"},
		{"PUT a 4\n\x00\xff\r\n\nGET a\n", "OK\nVALUE 4\n\x00\xff\r\n\n"},
		{put("a", big) + "GET a\n", "OK\nVALUE 1024\n" + big + "\n"},
		// what is too big is left out whole, with one byte more, be it a line feed or not
		{"PUT a 1025\n" + big + "x\nPING\nGET a\n", "ERR TOOBIG\nOK\nNONE\n"},
		{"PUT a 1025\n" + big + "xxPING\n", "ERR TOOBIG\nOK\n"},
		{"PUT a 1025\n" + big + "PING\n", "ERR TOOBIG\nERR SYNTAX\n"},
		{put("a", "old") + "PUT a 9999\n" + strings.Repeat("QUIT\n", 2000) + "GET a\n", "OK\nERR TOOBIG\nVALUE 3\nold\n"},
		{put("a", strings.Repeat("GET a\n", 6000)) + put("a", strings.Repeat("PING\n", 300)) + "PING\n", "ERR TOOBIG\nERR TOOBIG\nOK\n"},
		{put("a", strings.Repeat("\n", 65536)) + "PING\n", "ERR TOOBIG\nOK\n"},
		{"PUT a 65537\n" + strings.Repeat("y", 65537) + "\nPING\n", "ERR TOOBIG\n"},
		{"PUT a 999999999\nPING\n", "ERR TOOBIG\n"},
	} {
		mustAnswer(t, x)
	}
}

// 20.1: what is kept behind BEGIN.
func TestBatches(t *testing.T) {
	eight := put("a", "1") + "DEL b\nSET m 1\nUNSET n\nBUMP m 1\nBUMP m 1\nDEL c\n" + put("d", "2")
	for _, l := range [][]exchange{
		{{"COMMIT\nCANCEL\n", "ERR ARG\nERR ARG\n"}},
		{{"BEGIN\nCOMMIT\nCOMMIT\nBEGIN\nCANCEL\nCANCEL\n", "OK\nOK\nERR ARG\nOK\nOK\nERR ARG\n"}},
		// all five are kept, and done in their order
		{pairs, members, {"BEGIN\n" + eight, strings.Repeat("OK\n", 9)},
			{"GET a\nGET d\nSCORE m\nSCORE n\nCOUNT\n", "VALUE 1\nx\nNONE\nSCORE 3\nSCORE -0\nNUMBERS 2 3 4\n"},
			{"COMMIT\n", "OK\n"},
			{"GET a\nGET b\nGET c\nGET d\nSCORE m\nSCORE n\nCOUNT\n", "VALUE 1\n1\nNONE\nNONE\nVALUE 1\n2\nSCORE 3\nNONE\nNUMBERS 2 2 3\n"}},
		// or none
		{pairs, members, {"BEGIN\n" + eight + "CANCEL\n", strings.Repeat("OK\n", 10)},
			{"SCAN * * 9\nRANGE -inf inf 9\n", "PAIRS 3\n" + toldA + toldB + toldC + "SCORED 4\nn -0\np 0\nm 3\no inf\n"}},
		// one that can't be done undoes all, and the batch is over
		{pairs, {"BEGIN\n" + put("a", "1") + "SET m inf\nBUMP m -inf\nDEL b\nCOMMIT\n", "OK\nOK\nOK\nOK\nOK\nERR NAN\n"},
			{"GET a\nGET b\nCOUNT\nCOMMIT\n", "VALUE 1\nx\nVALUE 0\n\nNUMBERS 2 3 0\nERR ARG\n"},
			{"SET m 1\nSCORE m\n", "OK\nSCORE 1\n"}},
		// eight are kept, those behind are not; a value comes with its PUT all the same
		{{"BEGIN\n" + eight + put("e", "PING\n") + "DEL a\nSET m 7\nUNSET m\nBUMP m 9\n", strings.Repeat("OK\n", 9) + strings.Repeat("ERR MANY\n", 5)},
			{"COMMIT\nGET a\nGET e\nSCORE m\n", "OK\nVALUE 1\n1\nNONE\nSCORE 3\n"}},
		{{"BEGIN\n" + strings.Repeat("BUMP m 1\n", 20) + "COMMIT\nSCORE m\n", strings.Repeat("OK\n", 9) + strings.Repeat("ERR MANY\n", 12) + "OK\nSCORE 8\n"}},
		// a second BEGIN changes nothing
		{{"BEGIN\nSET m 1\nBEGIN\nSET n 2\nCOMMIT\nCOUNT\n", "OK\nOK\nERR ARG\nOK\nOK\nNUMBERS 2 0 2\n"}},
		// what is no command, or too big, is not kept
		{{"BEGIN\nSET m nan\nPUT a 1025\n" + strings.Repeat("y", 1025) + "\nx\nCOMMIT\nCOUNT\n", "OK\nERR SYNTAX\nERR TOOBIG\nERR SYNTAX\nOK\nNUMBERS 2 0 0\n"}},
		// others are answered as ever
		{pairs, members, {"BEGIN\nDEL a\nUNSET m\n", "OK\nOK\nOK\n"},
			{"PING\nSNAP\nSNAPS\nGET a\nGETAT 1 a\nSCANAT 1 * * 1\nSCAN * * 1\n", "OK\nNUMBER 1\nNUMBERS 1 1\nVALUE 1\nx\nVALUE 1\nx\nPAIRS 1\n" + toldA + "PAIRS 1\n" + toldA},
			{"SCORE m\nPLACE m\nRANGE 3 3 9\nSPREAD 3 3\nCOUNT\nDROP 1\n", "SCORE 3\nNUMBER 2\nSCORED 1\nm 3\nSPREAD 1 3 3 3 3\nNUMBERS 2 3 4\nOK\n"},
			{"COMMIT\nGET a\nSCORE m\nDEL b\nUNSET n\n", "OK\nNONE\nNONE\nYES\nYES\n"}},
		// the next batch begins with none
		{{"BEGIN\nSET m 1\nCANCEL\nBEGIN\nSET n 1\nCOMMIT\nCOUNT\nSCORE n\n", "OK\nOK\nOK\nOK\nOK\nOK\nNUMBERS 2 0 1\nSCORE 1\n"}},
		{{"BEGIN\nSET m 1\nQUIT\n", "OK\nOK\nOK\n"}},
	} {
		mustAnswer(t, whole(l))
	}
}

// 20.1: a batch is one client's alone; it is begun or ended by nobody else, and goes with its client.
func TestBatchesOfSeveral(t *testing.T) {
	c := store(t)
	n, m := New(c), New(c)
	for i, x := range []struct {
		n          *Conn
		text, want string
	}{
		{n, "BEGIN\nSET a 1\n", "OK\nOK\n"},
		{m, "COMMIT\nSCORE a\nSET a 5\nBEGIN\nSET b 2\n", "ERR ARG\nNONE\nOK\nOK\nOK\n"},
		{n, "BUMP a 1\nSCORE a\nCOMMIT\nSCORE a\nSCORE b\n", "OK\nSCORE 5\nOK\nSCORE 2\nNONE\n"},
		{m, "SET a 9\nQUIT\n", "OK\nOK\n"},
		{n, "RANGE -inf inf 9\n", "SCORED 1\na 2\n"},
	} {
		if got := answers(x.n, x.text); got != x.want {
			t.Errorf("%d: %q, not %q", i, got, x.want)
		}
	}
}

// 20.1: a store that is full says so; what takes away is done.
func TestFull(t *testing.T) {
	c := store(t)
	n := New(c)
	value := strings.Repeat("v", 1024)
	most := 0
	for ; most < 999; most++ {
		got := answers(n, put("k"+strconv.Itoa(most), value))
		if got == "ERR FULL\n" {
			break
		}
		if got != "OK\n" {
			t.Fatalf("%d: %q", most, got)
		}
	}
	stands := "NUMBERS 2 " + strconv.Itoa(most) + " 0\n"
	batch := "BEGIN\n" + put("x", "few") + put("y", value) + put("z", value) + "COMMIT\n"
	for i, x := range []exchange{
		{batch, "OK\nOK\nOK\nOK\nERR FULL\n"},
		{"COUNT\nGET x\nPING\n", stands + "NONE\nOK\n"},
		{"DEL k0\nDEL k1\nDEL k2\nDEL k3\n", "YES\nYES\nYES\nYES\n"},
		{batch + "GET x\n", "OK\nOK\nOK\nOK\nOK\nVALUE 3\nfew\n"},
	} {
		if got := answers(n, x.text); got != x.want {
			t.Errorf("%d: %.200q, not %q", i, got, x.want)
		}
	}
	if e := c.Check(); e != api.OK || n.Closed() {
		t.Error(e, n.Closed())
	}
}
