package code

// What each of A, B and C is: a word's place, and what is done with that word,
// or a number, or an instruction's place.
const (
	written = 'w'
	read    = 'r'
	changed = 'c' // read and written
	base    = 'b' // added to another word: the word at the place itself is let be
	number  = 'n'
	place   = 'p'
)

// most is how many numbers an instruction has at most.
const most = 3

// form is an operation's name, and what it has, one letter for each of A, B and C.
type form struct{ name, has string }

// forms are those of all operations.
var forms = [Ops]form{
	Halt:   {"halt", "n"},
	Set:    {"set", "wn"},
	Move:   {"move", "wr"},
	Add:    {"add", "wrr"},
	Sub:    {"sub", "wrr"},
	Mul:    {"mul", "wrr"},
	Div:    {"div", "wrr"},
	Rem:    {"rem", "wrr"},
	Eq:     {"eq", "wrr"},
	Ne:     {"ne", "wrr"},
	Lt:     {"lt", "wrr"},
	Le:     {"le", "wrr"},
	And:    {"and", "wrr"},
	Or:     {"or", "wrr"},
	Not:    {"not", "wr"},
	Load:   {"load", "wbr"},
	Store:  {"store", "brr"},
	Cut:    {"cut", "cnn"},
	Within: {"within", "wrn"},
	Jump:   {"jump", "p"},
	Jz:     {"jz", "pr"},
	Jnz:    {"jnz", "pr"},
}

// known tells whether a number is an operation's.
func known(op int) bool {
	return op >= 0 && op < Ops
}

// operations gives the operations by their names.
func operations() map[string]int {
	ops := make(map[string]int, Ops)
	for op, f := range forms {
		ops[f.name] = op
	}
	return ops
}
