package syntax_test

import (
	"math/rand"
	"slices"
	"strings"
	"testing"

	"baize/api"
	"baize/lex"
	"baize/syntax"
)

// The grammar by the chapter's words, as rules for a reader that keeps every
// way open: another one than the program's. The second expression of a pay
// doesn't begin with -, for the first one goes on as far as it can.
const grammar = `
program: game NAME seats N stake N stakes vars start block end turn block end play parameters block end silent NAME block end pay block end END
only: expression END
stakes:
stakes: N stakes
vars:
vars: var NAME size int int vars
size:
size: [ N ]
int: N
int: - N
parameters:
parameters: NAME int int parameters+
parameters+:
parameters+: , NAME int int parameters+
block:
block: statement block
statement: NAME = expression
statement: NAME [ expression ] = expression
statement: if expression then block otherwise end
statement: for NAME int int do block end
statement: refuse
statement: roll NAME N
statement: seat expression
statement: over
statement: pay expression second
statement: rest expression
otherwise:
otherwise: else block
expression: side expression+
expression+:
expression+: and side expression+
expression+: or side expression+
side: sum side+
side+:
side+: = sum
side+: != sum
side+: < sum
side+: <= sum
side+: > sum
side+: >= sum
sum: plain sum+
sum+:
sum+: + plain sum+
sum+: - plain sum+
sum+: * plain sum+
sum+: / plain sum+
sum+: % plain sum+
plain: - plain
plain: positive
positive: N
positive: NAME at
positive: ( expression )
positive: not plain
at:
at: [ expression ]
second: positive sum+ side+ expression+
`

// rules are the grammar's, by what they are rules of.
func rules() map[string][][]string {
	m := map[string][][]string{}
	for line := range strings.Lines(strings.TrimSpace(grammar)) {
		of, form, _ := strings.Cut(line, ":")
		m[of] = append(m[of], strings.Fields(form))
	}
	return m
}

// open gives all that may have to come, of what has to: lists that begin with what isn't a rule's.
func open(rules map[string][][]string, ways [][]string) [][]string {
	var l [][]string
	for _, way := range ways {
		if len(way) == 0 || rules[way[0]] == nil {
			l = append(l, way)
			continue
		}
		for _, form := range rules[way[0]] {
			l = append(l, open(rules, [][]string{slices.Concat(form, way[1:])})...)
		}
	}
	return l
}

// classes gives what tokens are in the grammar.
func classes(tokens []lex.Token) []string {
	var l []string
	for _, t := range tokens {
		switch t.Kind {
		case lex.End:
			l = append(l, "END")
		case lex.Name:
			l = append(l, "NAME")
		case lex.Number:
			l = append(l, "N")
		default:
			l = append(l, t.Text)
		}
	}
	return l
}

// stuck gives the place of the first token with which nothing can go on any more; how many there are, if all is well.
func stuck(rules map[string][][]string, first string, tokens []string) int {
	ways := [][]string{{first}}
	for i, token := range tokens {
		var l [][]string
		for _, way := range open(rules, ways) {
			if len(way) > 0 && way[0] == token {
				l = append(l, way[1:])
			}
		}
		if len(l) == 0 {
			return i
		}
		ways = l
	}
	return len(tokens)
}

// sameStuck looks whether a text is right, or wrong, where the grammar says so.
func sameStuck(t *testing.T, rules map[string][][]string, first, s string) {
	t.Helper()
	tokens, _, err := lex.Tokens(s)
	if err != api.OK {
		t.Fatalf("%q: %s", s, err.Word())
	}
	var wantAt syntax.Place
	want := api.OK
	if n := stuck(rules, first, classes(tokens)); n < len(tokens) {
		wantAt, want = syntax.Place(tokens[n].At), api.ErrForm
		if n == len(tokens)-1 {
			want = api.ErrShort
		}
	}
	_, at, err := syntax.Parse(s)
	if first == "only" {
		_, at, err = syntax.Expression(s)
	}
	if at != wantAt || err != want {
		t.Errorf("%q: %v, %s; want %v, %s", s, at, err.Word(), wantAt, want.Word())
	}
}

// pieces are all words and marks, a name and a number.
func pieces() []string {
	return slices.Concat(lex.Words(), lex.Marks(), []string{"x", "7"})
}

// TestP101Stuck: behind each beginning of a program each token goes on, or doesn't, as the grammar says.
func TestP101Stuck(t *testing.T) {
	rules := rules()
	tokens, _, _ := lex.Tokens(all)
	var ahead strings.Builder
	for _, x := range tokens {
		sameStuck(t, rules, "program", ahead.String())
		for _, y := range pieces() {
			sameStuck(t, rules, "program", ahead.String()+" "+y)
		}
		ahead.WriteString(" " + x.Text)
	}
}

// TestP101Changed: likewise programs in which pieces were changed, left out, put in, or cut off by chance.
func TestP101Changed(t *testing.T) {
	rules, chance := rules(), rand.New(rand.NewSource(10))
	m := maker{chance}
	others := pieces()
	for range 1500 {
		l := m.tokens(m.program())
		for range 1 + chance.Intn(2) {
			i, y := chance.Intn(len(l)), others[chance.Intn(len(others))]
			switch chance.Intn(5) {
			case 0:
				l[i] = y
			case 1:
				l = slices.Delete(l, i, i+1)
			case 2:
				l = slices.Insert(l, i, y)
			case 3:
				l[i], l[0] = l[0], l[i]
			default:
				l = l[:i+1]
			}
		}
		sameStuck(t, rules, "program", strings.Join(l, " "))
	}
}

// TestP102Stuck: all short texts, and long ones by chance, as expressions.
func TestP102Stuck(t *testing.T) {
	rules, chance := rules(), rand.New(rand.NewSource(102))
	parts := []string{"x", "7", "(", ")", "[", "]", "-", "*", "=", "<", "not", "and", "or", "if"}
	short := []string{""}
	for range 4 {
		var longer []string
		for _, s := range short {
			for _, x := range parts {
				longer = append(longer, s+" "+x)
			}
		}
		for _, s := range longer {
			sameStuck(t, rules, "only", s)
		}
		short = longer
	}
	m := maker{chance}
	for range 3000 {
		l := m.exprTokens(m.expr(3), 0)
		i := chance.Intn(len(l))
		if chance.Intn(2) == 0 {
			l[i] = parts[chance.Intn(len(parts))]
		} else {
			l = slices.Insert(l, i, parts[chance.Intn(len(parts))])
		}
		sameStuck(t, rules, "only", strings.Join(l, " "))
	}
}
