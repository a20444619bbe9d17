package parse

import "reliquary/api"

// form is how the lines of a kind look: their name, and their fields in the order of their words.
type form struct {
	kind   int
	name   string
	fields func(*Command, walker)
}

// walker goes through the fields of a command, one word each. Reading and telling go the same way, so that the one can't differ from the other.
type walker interface {
	name(*string)
	bound(*string)
	score(*float64)
	number(*int)
}

func forms() []form {
	return []form{
		{api.KPut, "PUT", (*Command).nameAndN},
		{api.KGet, "GET", (*Command).nameAlone},
		{api.KDel, "DEL", (*Command).nameAlone},
		{api.KScan, "SCAN", (*Command).bounds},
		{api.KSet, "SET", (*Command).nameAndScore},
		{api.KBump, "BUMP", (*Command).nameAndScore},
		{api.KUnset, "UNSET", (*Command).nameAlone},
		{api.KScore, "SCORE", (*Command).nameAlone},
		{api.KRange, "RANGE", (*Command).scoresAndN},
		{api.KPlace, "PLACE", (*Command).nameAlone},
		{api.KSpread, "SPREAD", (*Command).scores},
		{api.KSnap, "SNAP", (*Command).nothing},
		{api.KDrop, "DROP", (*Command).id},
		{api.KGetAt, "GETAT", (*Command).idAndName},
		{api.KScanAt, "SCANAT", (*Command).idAndBounds},
		{api.KSnaps, "SNAPS", (*Command).nothing},
		{api.KCount, "COUNT", (*Command).nothing},
		{api.KBegin, "BEGIN", (*Command).nothing},
		{api.KCommit, "COMMIT", (*Command).nothing},
		{api.KCancel, "CANCEL", (*Command).nothing},
		{api.KPing, "PING", (*Command).nothing},
		{api.KQuit, "QUIT", (*Command).nothing},
	}
}

func named(name string) (form, bool) {
	for _, f := range forms() {
		if f.name == name {
			return f, true
		}
	}
	return form{}, false
}

func ofKind(kind int) (form, bool) {
	for _, f := range forms() {
		if f.kind == kind {
			return f, true
		}
	}
	return form{}, false
}

func (c *Command) nothing(walker) {}

func (c *Command) nameAlone(w walker) {
	w.name(&c.Key)
}

func (c *Command) nameAndN(w walker) {
	w.name(&c.Key)
	w.number(&c.N)
}

func (c *Command) nameAndScore(w walker) {
	w.name(&c.Key)
	w.score(&c.A)
}

func (c *Command) bounds(w walker) {
	w.bound(&c.Lo)
	w.bound(&c.Hi)
	w.number(&c.N)
}

func (c *Command) scores(w walker) {
	w.score(&c.A)
	w.score(&c.B)
}

func (c *Command) scoresAndN(w walker) {
	c.scores(w)
	w.number(&c.N)
}

func (c *Command) id(w walker) {
	w.number(&c.ID)
}

func (c *Command) idAndName(w walker) {
	c.id(w)
	c.nameAlone(w)
}

func (c *Command) idAndBounds(w walker) {
	c.id(w)
	c.bounds(w)
}
