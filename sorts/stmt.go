package sorts

import (
	"baize/api"
	"baize/syntax"
)

const (
	// mostFors is how many fors may stand within each other.
	mostFors = 8
	// mostAbove is how much a for's last number may be above its first one.
	mostAbove = 63
	// mostSides is how many a throw may have.
	mostSides = 1000
)

// kind is what a kind of statement has to have, and where alone it may stand, if not everywhere.
type kind struct {
	exprs int
	part  string
}

// kinds are all that there are.
var kinds = [...]kind{
	syntax.Assign: {1, ""},
	syntax.Put:    {2, ""},
	syntax.If:     {1, ""},
	syntax.For:    {0, ""},
	syntax.Refuse: {0, "play"},
	syntax.Roll:   {0, "play"},
	syntax.Seat:   {1, "turn"},
	syntax.Over:   {0, "turn"},
	syntax.Pay:    {2, "pay"},
	syntax.Rest:   {1, "pay"},
}

// block looks at the statements of an if, or of a for.
func (c *checker) block(l []syntax.Stmt) {
	for _, s := range l {
		c.statement(s, false)
	}
}

// statement looks at one, and at those within it; last is whether its part has none behind it.
func (c *checker) statement(s syntax.Stmt, last bool) {
	must(0 <= s.Kind && s.Kind < len(kinds) && len(s.E) == kinds[s.Kind].exprs, api.ErrForm, "")
	only := kinds[s.Kind].part
	must((only == "" || only == c.at) && (s.Kind != syntax.Rest || last), api.ErrState, c.at)
	switch s.Kind {
	case syntax.Assign:
		c.assigned(s.Name, plain)
	case syntax.Put:
		c.assigned(s.Name, list)
	case syntax.Roll:
		c.assigned(s.Name, plain)
		must(2 <= s.Low && s.Low <= mostSides, api.ErrRange, s.Name)
	case syntax.For:
		c.loop(s)
	}
	for _, e := range s.E {
		must(syntax.Deep(e) <= MostDeep, api.ErrDeep, "")
		c.expr(e)
	}
	c.within(s)
}

// assigned asks that a name is known, and may be assigned as what is of that sort.
func (c *checker) assigned(name string, as sort) {
	is, known := c.known[name]
	must(known, api.ErrName, name)
	must(is == as, api.ErrSort, name)
}

// loop looks at a for, ahead of its statements.
func (c *checker) loop(s syntax.Stmt) {
	c.unknown(s.Name)
	must(inNumbers(s.Low) && inNumbers(s.High) && s.High-s.Low <= mostAbove, api.ErrRange, s.Name)
	must(c.fors < mostFors, api.ErrDeep, s.Name)
}

func inNumbers(n int) bool {
	return least <= n && n <= greatest
}

// within looks at the statements of an if, or of a for.
func (c *checker) within(s syntax.Stmt) {
	switch s.Kind {
	case syntax.If:
		c.block(s.L)
		c.block(s.Else)
	case syntax.For:
		c.fors++
		c.knowing([]string{s.Name}, func() { c.block(s.L) })
		c.fors--
	}
}
