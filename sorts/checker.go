package sorts

import (
	"slices"

	"baize/api"
	"baize/lex"
	"baize/syntax"
)

const (
	least    = -1 << 31
	greatest = 1<<31 - 1
)

// sort is what a known name stands for.
type sort int

const (
	fixed sort = iota // what is read alone: a parameter, who was silent, a for's number
	plain             // a variable without cells of its own
	list              // one with cells of its own
)

// checker looks at a program part by part.
type checker struct {
	known map[string]sort
	at    string // which part is looked at
	fors  int    // within how many fors the next statement stands
}

// must throws a fault, if what has to be isn't so.
func must(so bool, e api.Errno, name string) {
	if !so {
		panic(Fault{e, name})
	}
}

// unknown asks that a name is one, and isn't known yet.
func (c *checker) unknown(name string) {
	_, twice := c.known[name]
	must(lex.IsName(name), api.ErrName, name)
	must(!twice, api.ErrTwice, name)
}

// stakes looks at what stands ahead of the variables.
func (c *checker) stakes(p syntax.Program) {
	must(lex.IsName(p.Name), api.ErrName, p.Name)
	must(2 <= p.Seats && p.Seats <= 8, api.ErrRange, "seats")
	must(len(p.Stakes) == p.Seats, api.ErrForm, "stake")
	for _, stake := range p.Stakes {
		must(1 <= stake && stake <= greatest, api.ErrRange, "stake")
	}
}

// variables looks at those of a program, and has them known from then on.
func (c *checker) variables(p syntax.Program) {
	for _, v := range p.Vars {
		c.unknown(v.Name)
		must(0 <= v.Size && v.Size <= MostCells && inRange(v), api.ErrRange, v.Name)
		c.known[v.Name] = plain
		if v.Size > 0 {
			c.known[v.Name] = list
		}
	}
	must(Cells(p) <= MostCells, api.ErrFull, "var")
}

// parameters looks at those of play, which aren't known but there.
func (c *checker) parameters(p syntax.Program) {
	must(len(p.Params) <= MostParams, api.ErrFull, "play")
	for i, v := range p.Params {
		c.unknown(v.Name)
		must(!slices.Contains(names(p.Params[:i]), v.Name), api.ErrTwice, v.Name)
		must(v.Size == 0, api.ErrForm, v.Name)
		must(inRange(v), api.ErrRange, v.Name)
	}
	must(Menu(p) <= MostMenu, api.ErrFull, "play")
}

func inRange(v syntax.Var) bool {
	return least <= v.Low && v.Low <= v.High && v.High <= greatest
}

func names(l []syntax.Var) []string {
	var names []string
	for _, v := range l {
		names = append(names, v.Name)
	}
	return names
}

// part looks at one, in which these names are known, too.
func (c *checker) part(name string, l []syntax.Stmt, names ...string) {
	c.at = name
	c.knowing(names, func() {
		for i, s := range l {
			c.statement(s, i == len(l)-1)
		}
	})
}

// knowing has names known for as long as it looks at something.
func (c *checker) knowing(names []string, look func()) {
	defer func() {
		for _, name := range names {
			delete(c.known, name)
		}
	}()
	for _, name := range names {
		c.known[name] = fixed
	}
	look()
}

// endsWay tells whether a block ends its way.
func endsWay(l []syntax.Stmt) bool {
	return slices.ContainsFunc(l, func(s syntax.Stmt) bool {
		return s.Kind == syntax.Seat || s.Kind == syntax.Over || s.Kind == syntax.If && endsWay(s.L) && endsWay(s.Else)
	})
}

func endsWithRest(l []syntax.Stmt) bool {
	return len(l) > 0 && l[len(l)-1].Kind == syntax.Rest
}
