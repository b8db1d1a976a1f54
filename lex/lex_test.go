package lex_test

import (
	"math"
	"math/rand"
	"regexp"
	"slices"
	"strconv"
	"strings"
	"testing"

	"baize/api"
	"baize/lex"
)

const most = 65536

// The chapter's words and marks, in its order.
var (
	words = []string{"game", "seats", "stake", "var", "start", "turn", "play", "silent", "pay", "end", "if", "then", "else", "for", "do", "refuse", "roll", "seat", "over", "rest", "and", "or", "not"}
	marks = []string{"[", "]", "(", ")", "=", "!=", "<", "<=", ">", ">=", "+", "-", "*", "/", "%", ","}
)

func name(s string, line, col int) lex.Token {
	return lex.Token{Kind: lex.Name, Text: s, At: lex.Place{Line: line, Col: col}}
}

func number(n, line, col int) lex.Token {
	return lex.Token{Kind: lex.Number, Text: strconv.Itoa(n), N: n, At: lex.Place{Line: line, Col: col}}
}

func word(s string, line, col int) lex.Token {
	return lex.Token{Kind: lex.Word, Text: s, At: lex.Place{Line: line, Col: col}}
}

func mark(s string, line, col int) lex.Token {
	return lex.Token{Kind: lex.Mark, Text: s, At: lex.Place{Line: line, Col: col}}
}

func end(line, col int) lex.Token {
	return lex.Token{At: lex.Place{Line: line, Col: col}}
}

// wantTokens looks whether a text has these tokens.
func wantTokens(t *testing.T, s string, want ...lex.Token) {
	t.Helper()
	l, at, err := lex.Tokens(s)
	if !slices.Equal(l, want) || at != (lex.Place{}) || err != api.OK {
		t.Errorf("%.60q: %v, %v, %s; want %v", s, l, at, err.Word(), want)
	}
}

// wantWrong looks whether a text is wrong there.
func wantWrong(t *testing.T, s string, line, col int, want api.Errno) {
	t.Helper()
	l, at, err := lex.Tokens(s)
	if len(l) != 0 || at != (lex.Place{Line: line, Col: col}) || err != want {
		t.Errorf("%.60q: %d tokens, %v, %s; want %d %d, %s", s, len(l), at, err.Word(), line, col, want.Word())
	}
}

// TestExample: the chapter's.
func TestExample(t *testing.T) {
	wantTokens(t, "x1<=3", name("x1", 1, 1), mark("<=", 1, 3), number(3, 1, 5), end(1, 6))
	wantWrong(t, "if 07", 1, 4, api.ErrForm)
}

// TestP91Kinds: the kinds' numbers.
func TestP91Kinds(t *testing.T) {
	if lex.End != 0 || lex.Name != 1 || lex.Number != 2 || lex.Word != 3 || lex.Mark != 4 {
		t.Error(lex.End, lex.Name, lex.Number, lex.Word, lex.Mark)
	}
}

// TestP91Tokens: tokens, and where they stand.
func TestP91Tokens(t *testing.T) {
	wantTokens(t, "", end(1, 1))
	wantTokens(t, "\n", end(2, 1))
	wantTokens(t, " \t ", end(1, 4))
	wantTokens(t, "#", end(1, 2))
	wantTokens(t, "# a ! \x00 \xff 07 é", end(1, 16))
	wantTokens(t, "#\n", end(2, 1))
	wantTokens(t, "a#b\nc", name("a", 1, 1), name("c", 2, 1), end(2, 2))
	wantTokens(t, "a##\n\n\t b\n", name("a", 1, 1), name("b", 3, 3), end(4, 1))
	wantTokens(t, "a b\n  c\n\n", name("a", 1, 1), name("b", 1, 3), name("c", 2, 3), end(4, 1))
	wantTokens(t, "\tgame", word("game", 1, 2), end(1, 6))
	wantTokens(t, "Game GAME game1 game_", name("Game", 1, 1), name("GAME", 1, 6), name("game1", 1, 11), name("game_", 1, 17), end(1, 22))
	wantTokens(t, "iffy if", name("iffy", 1, 1), word("if", 1, 6), end(1, 8))
	wantTokens(t, "a_ Z9__z", name("a_", 1, 1), name("Z9__z", 1, 4), end(1, 9))
	wantTokens(t, "0 10 2147483647", number(0, 1, 1), number(10, 1, 3), number(2147483647, 1, 6), end(1, 16))
	wantTokens(t, "-1", mark("-", 1, 1), number(1, 1, 2), end(1, 3))
	wantTokens(t, "a[1]=-b", name("a", 1, 1), mark("[", 1, 2), number(1, 1, 3), mark("]", 1, 4), mark("=", 1, 5), mark("-", 1, 6), name("b", 1, 7), end(1, 8))
	wantTokens(t, "==", mark("=", 1, 1), mark("=", 1, 2), end(1, 3))
	wantTokens(t, "!==", mark("!=", 1, 1), mark("=", 1, 3), end(1, 4))
	wantTokens(t, "=!=", mark("=", 1, 1), mark("!=", 1, 2), end(1, 4))
	wantTokens(t, "<==>>=<>", mark("<=", 1, 1), mark("=", 1, 3), mark(">", 1, 4), mark(">=", 1, 5), mark("<", 1, 7), mark(">", 1, 8), end(1, 9))
	wantTokens(t, "< = > =", mark("<", 1, 1), mark("=", 1, 3), mark(">", 1, 5), mark("=", 1, 7), end(1, 8))
	wantTokens(t, "<\n=", mark("<", 1, 1), mark("=", 2, 1), end(2, 2))
	wantTokens(t, "=#\n=", mark("=", 1, 1), mark("=", 2, 1), end(2, 2))
}

// TestP91All: each word and mark is one token, of its kind.
func TestP91All(t *testing.T) {
	for _, w := range words {
		wantTokens(t, w, word(w, 1, 1), end(1, 1+len(w)))
		wantTokens(t, "x("+w+")1", name("x", 1, 1), mark("(", 1, 2), word(w, 1, 3), mark(")", 1, 3+len(w)), number(1, 1, 4+len(w)), end(1, 5+len(w)))
	}
	for _, m := range marks {
		wantTokens(t, m, mark(m, 1, 1), end(1, 1+len(m)))
		wantTokens(t, "x"+m+"1", name("x", 1, 1), mark(m, 1, 2), number(1, 1, 2+len(m)), end(1, 3+len(m)))
	}
}

// TestP91Wrong: each error, where it stands, and which one is first.
func TestP91Wrong(t *testing.T) {
	wantTokens(t, strings.Repeat("a", 30), name(strings.Repeat("a", 30), 1, 1), end(1, 31))
	wantWrong(t, strings.Repeat("a", 31), 1, 1, api.ErrRange)
	wantWrong(t, "\n a"+strings.Repeat("_9", 15), 2, 2, api.ErrRange)
	wantWrong(t, strings.Repeat("game", 8), 1, 1, api.ErrRange)
	wantWrong(t, "a "+strings.Repeat("Z", most-2), 1, 3, api.ErrRange)
	for _, s := range []string{"00", "01", "07", "1a", "1_", "0x1", "9z9", "0_", "02147483648", "2147483648a", "99999999999999999999999a", "1" + strings.Repeat("0", 50) + "_", "0" + strings.Repeat("0", 50)} {
		wantWrong(t, s, 1, 1, api.ErrForm)
		wantWrong(t, "a b\n c+"+s+" d", 2, 4, api.ErrForm)
	}
	for _, s := range []string{"2147483648", "2147483650", "4294967295", "4294967296", "4294967297", "9223372036854775808", "18446744073709551616", "18446744073709551617", strings.Repeat("1", 100)} {
		wantWrong(t, s, 1, 1, api.ErrRange)
		wantWrong(t, "a b\n c+"+s+" d", 2, 4, api.ErrRange)
	}
	for _, s := range []string{"!", "! =", "!!=", "!<", "_", "_a", "__", "$", "\r", "\v", "\f", "\x00", ".", ";", ":", "\"", "'", "&", "|", "{", "}", "@", "~", "^", "\\", "?", "`", "\x7f", "\x80", "\xff", "é", "\u00a0", "\ufeff", "٣"} {
		wantWrong(t, s, 1, 1, api.ErrForm)
		wantWrong(t, "a b\n c+"+s+" d", 2, 4, api.ErrForm)
		wantWrong(t, "("+s, 1, 2, api.ErrForm)
	}
	wantWrong(t, "a 01 $ "+strings.Repeat("b", 31), 1, 3, api.ErrForm)
	wantWrong(t, "a $ 99999999999", 1, 3, api.ErrForm)
	wantWrong(t, "a 99999999999 $", 1, 3, api.ErrRange)
	wantWrong(t, "a "+strings.Repeat("b", 31)+" 01", 1, 3, api.ErrRange)
	wantWrong(t, "1.5", 1, 2, api.ErrForm)
	wantWrong(t, "a\r\n", 1, 2, api.ErrForm)
	wantWrong(t, "# é\né", 2, 1, api.ErrForm)
}

// TestP91Bytes: each byte alone, behind a name, behind a number, and in a comment.
func TestP91Bytes(t *testing.T) {
	for i := range 256 {
		b := string([]byte{byte(i)})
		letter := regexp.MustCompile("^[a-zA-Z]$").MatchString(b)
		digit := regexp.MustCompile("^[0-9]$").MatchString(b)
		wantTokens(t, "#"+b+"\na", name("a", 2+strings.Count(b, "\n"), 1), end(2+strings.Count(b, "\n"), 2))
		switch {
		case letter:
			wantTokens(t, b, name(b, 1, 1), end(1, 2))
			wantTokens(t, "a"+b, name("a"+b, 1, 1), end(1, 3))
			wantWrong(t, "1"+b, 1, 1, api.ErrForm)
		case digit:
			wantTokens(t, b, number(i-'0', 1, 1), end(1, 2))
			wantTokens(t, "a"+b, name("a"+b, 1, 1), end(1, 3))
			wantTokens(t, "1"+b, number(10+i-'0', 1, 1), end(1, 3))
		case b == "_":
			wantWrong(t, b, 1, 1, api.ErrForm)
			wantTokens(t, "a"+b, name("a"+b, 1, 1), end(1, 3))
			wantWrong(t, "1"+b, 1, 1, api.ErrForm)
		case b == "\n":
			wantTokens(t, "a"+b, name("a", 1, 1), end(2, 1))
		case b == " " || b == "\t" || b == "#":
			wantTokens(t, "a"+b, name("a", 1, 1), end(1, 3))
		case slices.Contains(marks, b):
			wantTokens(t, "a"+b, name("a", 1, 1), mark(b, 1, 2), end(1, 3))
		default:
			wantWrong(t, b, 1, 1, api.ErrForm)
			wantWrong(t, "a"+b, 1, 2, api.ErrForm)
			wantWrong(t, "1"+b, 1, 2, api.ErrForm)
		}
	}
}

// TestP91Long: how long a text may be.
func TestP91Long(t *testing.T) {
	l, at, err := lex.Tokens(strings.Repeat("+", most))
	if len(l) != most+1 || at != (lex.Place{}) || err != api.OK || l[most] != end(1, most+1) || l[most-1] != mark("+", 1, most) {
		t.Errorf("the longest text: %d tokens, %v, %s", len(l), at, err.Word())
	}
	wantTokens(t, strings.Repeat("\n", most), end(most+1, 1))
	wantTokens(t, strings.Repeat(" ", most), end(1, most+1))
	wantTokens(t, strings.Repeat("#", most), end(1, most+1))
	wantWrong(t, strings.Repeat("+", most-1)+"$", 1, most, api.ErrForm)
	for _, s := range []string{" ", "#", "+", "$", "a", "1"} {
		wantWrong(t, strings.Repeat(s, most+1), 0, 0, api.ErrRange)
		wantWrong(t, strings.Repeat(s, 3*most), 0, 0, api.ErrRange)
	}
}

var (
	gap   = regexp.MustCompile(`^(?:[ \t\n]|#[^\n]*)+`)
	piece = regexp.MustCompile(`^(?:[a-zA-Z0-9][a-zA-Z0-9_]*|!=|<=|>=|[\[\]()=<>+*/%,-])`)
)

// look gives the tokens of a text by regular expressions: another way than the program's.
func look(s string) ([]lex.Token, lex.Place, api.Errno) {
	var l []lex.Token
	for n := 0; ; {
		n += len(gap.FindString(s[n:]))
		at := lex.Place{Line: 1 + strings.Count(s[:n], "\n"), Col: n - strings.LastIndex(s[:n], "\n")}
		if n == len(s) {
			return append(l, lex.Token{At: at}), lex.Place{}, api.OK
		}
		x := piece.FindString(s[n:])
		t := lex.Token{Text: x, At: at}
		switch {
		case x == "" || regexp.MustCompile(`^(0.|.*[^0-9])`).MatchString(x) && '0' <= x[0] && x[0] <= '9':
			return nil, at, api.ErrForm
		case '0' <= x[0] && x[0] <= '9':
			f, _ := strconv.ParseFloat(x, 64)
			if f > 2147483647 {
				return nil, at, api.ErrRange
			}
			t.Kind, t.N = lex.Number, int(f)
		case slices.Contains(marks, x):
			t.Kind = lex.Mark
		case len(x) > 30:
			return nil, at, api.ErrRange
		case slices.Contains(words, x):
			t.Kind = lex.Word
		default:
			t.Kind = lex.Name
		}
		l, n = append(l, t), n+len(x)
	}
}

// sameLook looks whether a text's tokens are those that regular expressions find.
func sameLook(t *testing.T, s string) {
	t.Helper()
	l, at, err := lex.Tokens(s)
	wantL, wantAt, want := look(s)
	if !slices.Equal(l, wantL) || at != wantAt || err != want {
		t.Errorf("%q: %v, %v, %s; want %v, %v, %s", s, l, at, err.Word(), wantL, wantAt, want.Word())
	}
}

// TestP91Look: tokens are as another way finds them, in all short texts of some bytes, and in long ones that chance makes.
func TestP91Look(t *testing.T) {
	short := []string{""}
	for range 4 {
		for _, s := range short {
			for _, b := range []string{"a", "_", "0", "7", "<", "=", "!", "#", "\n", " ", "$"} {
				sameLook(t, s+b)
			}
		}
		var longer []string
		for _, s := range short {
			for _, b := range []string{"a", "_", "0", "7", "<", "=", "!", "#", "\n", " ", "$"} {
				longer = append(longer, s+b)
			}
		}
		short = longer
	}
	chance := rand.New(rand.NewSource(9))
	parts := slices.Concat(words, marks, []string{" ", " ", "\n", "\t", "# x\n", "a", "B_", "0", "12", "2147483647", "2147483648", strings.Repeat("q", 30), "_", "!", "\xff", "#"})
	for range 20000 {
		var s strings.Builder
		for range chance.Intn(12) {
			s.WriteString(parts[chance.Intn(len(parts))])
			if chance.Intn(3) > 0 {
				s.WriteString(" ")
			}
		}
		sameLook(t, s.String())
	}
}

// TestP92Lists: the words and the marks, in their order.
func TestP92Lists(t *testing.T) {
	if got := lex.Words(); !slices.Equal(got, words) {
		t.Error(got)
	}
	if got := lex.Marks(); !slices.Equal(got, marks) {
		t.Error(got)
	}
}

// TestP92IsName: what may be a name.
func TestP92IsName(t *testing.T) {
	for _, s := range []string{"a", "Z", "a1", "a_", "x_9_Y", "Game", "GAME", "games", "nott", "End", strings.Repeat("a", 30), "a" + strings.Repeat("_", 29), "a" + strings.Repeat("0", 29)} {
		if !lex.IsName(s) {
			t.Errorf("%q isn't a name", s)
		}
	}
	for _, s := range append([]string{"", " ", "_", "_a", "1", "1a", "0", "a b", " a", "a ", "a\n", "a#", "#a", "a-b", "a.b", "é", "aé", "a\xff", "a\x00", "\x00", strings.Repeat("a", 31), strings.Repeat("a", 100000), strings.Repeat("game", 8)}, append(words, marks...)...) {
		if lex.IsName(s) {
			t.Errorf("%q is a name", s)
		}
	}
	for i := range 256 {
		b := string([]byte{byte(i)})
		if lex.IsName(b) != regexp.MustCompile("^[a-zA-Z]$").MatchString(b) || lex.IsName("a"+b+"a") != regexp.MustCompile("^a[a-zA-Z0-9_]a$").MatchString("a"+b+"a") {
			t.Errorf("byte %d", i)
		}
	}
}

// TestP93Join: what is joined.
func TestP93Join(t *testing.T) {
	odd := lex.Place{Line: -7, Col: math.MaxInt}
	long := make([]lex.Token, most)
	for i := range long {
		long[i] = name("ab", 0, 0)
	}
	for _, x := range []struct {
		l    []lex.Token
		want string
	}{
		{nil, ""},
		{[]lex.Token{}, ""},
		{[]lex.Token{end(1, 1)}, ""},
		{[]lex.Token{name("a", 1, 1)}, "a"},
		{[]lex.Token{name("a", 1, 1), end(1, 2)}, "a"},
		{[]lex.Token{name("a", 5, 5), name("b", 1, 1)}, "a b"},
		{[]lex.Token{word("if", 1, 1), name("x", 0, 0), mark("<=", 0, 0), number(0, 0, 0), word("then", 0, 0), end(0, 0)}, "if x <= 0 then"},
		{[]lex.Token{{Kind: lex.Number, Text: "2147483647", N: 2147483647, At: odd}, {Kind: lex.Mark, Text: ",", At: odd}, {At: odd}}, "2147483647 ,"},
		{[]lex.Token{name(strings.Repeat("a", 30), 0, 0)}, strings.Repeat("a", 30)},
		{long, strings.Repeat("ab ", most-1) + "ab"},
	} {
		if got, err := lex.Join(x.l); got != x.want || err != api.OK {
			t.Errorf("%.100v: %.100q, %s", x.l, got, err.Word())
		}
	}
	for _, w := range words {
		if got, err := lex.Join([]lex.Token{word(w, 0, 0), word(w, 0, 0), end(0, 0)}); got != w+" "+w || err != api.OK {
			t.Errorf("%s: %q, %s", w, got, err.Word())
		}
	}
	for _, m := range marks {
		if got, err := lex.Join([]lex.Token{mark(m, 0, 0), mark(m, 0, 0), end(0, 0)}); got != m+" "+m || err != api.OK {
			t.Errorf("%s: %q, %s", m, got, err.Word())
		}
	}
}

// TestP93Wrong: what isn't joined.
func TestP93Wrong(t *testing.T) {
	for _, x := range []lex.Token{
		{Kind: -1}, {Kind: -1, Text: "a"}, {Kind: 5}, {Kind: 5, Text: "a"}, {Kind: math.MinInt, Text: "+"},
		{Kind: lex.End, Text: "a"}, {Kind: lex.End, Text: "end"}, {Kind: lex.End, N: 1}, {Kind: lex.End, Text: " "},
		{Kind: lex.Name}, {Kind: lex.Name, Text: "if"}, {Kind: lex.Name, Text: "1"}, {Kind: lex.Name, Text: "+"}, {Kind: lex.Name, Text: "a", N: 1}, {Kind: lex.Name, Text: "a b"}, {Kind: lex.Name, Text: "a "}, {Kind: lex.Name, Text: "_a"}, {Kind: lex.Name, Text: strings.Repeat("a", 31)}, {Kind: lex.Name, Text: "a#"},
		{Kind: lex.Number}, {Kind: lex.Number, N: 1}, {Kind: lex.Number, Text: "1"}, {Kind: lex.Number, Text: "1", N: 2}, {Kind: lex.Number, Text: "1", N: -1}, {Kind: lex.Number, Text: "-1", N: -1}, {Kind: lex.Number, Text: "01", N: 1}, {Kind: lex.Number, Text: "+1", N: 1}, {Kind: lex.Number, Text: "1_0", N: 10}, {Kind: lex.Number, Text: "0x1", N: 1}, {Kind: lex.Number, Text: "2147483648", N: 2147483648}, {Kind: lex.Number, Text: "2147483648", N: 2147483647}, {Kind: lex.Number, Text: "4294967297", N: 1}, {Kind: lex.Number, Text: "a"}, {Kind: lex.Number, Text: " 1", N: 1},
		{Kind: lex.Word}, {Kind: lex.Word, Text: "a"}, {Kind: lex.Word, Text: "If"}, {Kind: lex.Word, Text: "if", N: 1}, {Kind: lex.Word, Text: "if then"}, {Kind: lex.Word, Text: "+"}, {Kind: lex.Word, Text: "1", N: 1},
		{Kind: lex.Mark}, {Kind: lex.Mark, Text: "!"}, {Kind: lex.Mark, Text: "=="}, {Kind: lex.Mark, Text: "a"}, {Kind: lex.Mark, Text: "or"}, {Kind: lex.Mark, Text: "+", N: 1}, {Kind: lex.Mark, Text: "+ "}, {Kind: lex.Mark, Text: "#"}, {Kind: lex.Mark, Text: "1", N: 1},
	} {
		for _, l := range [][]lex.Token{{x}, {x, end(1, 1)}, {name("a", 1, 1), x}, {name("a", 1, 1), x, name("b", 1, 1), end(1, 1)}} {
			if got, err := lex.Join(l); got != "" || err != api.ErrForm {
				t.Errorf("%v: %q, %s", l, got, err.Word())
			}
		}
	}
	for _, l := range [][]lex.Token{{end(1, 1), end(1, 1)}, {end(1, 1), name("a", 1, 1)}, {name("a", 1, 1), end(1, 2), name("b", 1, 1), end(1, 2)}, {name("a", 1, 1), end(1, 2), end(1, 2)}} {
		if got, err := lex.Join(l); got != "" || err != api.ErrForm {
			t.Errorf("%v: %q, %s", l, got, err.Word())
		}
	}
}

// TestP93Same: what is the same.
func TestP93Same(t *testing.T) {
	l := []lex.Token{name("a", 1, 1), mark("<=", 2, 2), number(3, 3, 3), word("or", 4, 4), end(5, 5)}
	moved := slices.Clone(l)
	for i := range moved {
		moved[i].At = lex.Place{Line: -i, Col: 100 * i}
	}
	if !lex.Same(l, l) || !lex.Same(l, moved) || !lex.Same(nil, []lex.Token{}) || !lex.Same([]lex.Token{{Kind: 9, Text: "?", N: -1}}, []lex.Token{{Kind: 9, Text: "?", N: -1, At: lex.Place{Line: 1, Col: 1}}}) {
		t.Error("what is the same isn't")
	}
	if lex.Same(l, nil) || lex.Same(nil, l) || lex.Same(nil, l[4:]) || lex.Same(l, l[:4]) || lex.Same(l[:4], l) || lex.Same(l, l[1:]) {
		t.Error("as many as they are plays no part")
	}
	for i := range l {
		for _, change := range []func(x *lex.Token){
			func(x *lex.Token) { x.Kind++ },
			func(x *lex.Token) { x.Text += "a" },
			func(x *lex.Token) { x.N-- },
		} {
			other := slices.Clone(moved)
			change(&other[i])
			if lex.Same(l, other) || lex.Same(other, l) {
				t.Errorf("%v and %v are the same", l, other)
			}
		}
		other := slices.Clone(l)
		other[i], other[(i+1)%5] = other[(i+1)%5], other[i]
		if lex.Same(l, other) {
			t.Error("the order plays no part")
		}
	}
}

// pick gives so many tokens by chance.
func pick(chance *rand.Rand, n int) []lex.Token {
	var l []lex.Token
	for range n {
		switch chance.Intn(4) {
		case 0:
			l = append(l, word(words[chance.Intn(len(words))], 0, 0))
		case 1:
			l = append(l, mark(marks[chance.Intn(len(marks))], 0, 0))
		case 2:
			l = append(l, number(chance.Intn(1<<(1+chance.Intn(31))), 0, 0))
		default:
			l = append(l, name([]string{"a", "B", "x_1", "iff", strings.Repeat("z", 30)}[chance.Intn(5)], 0, 0))
		}
	}
	return append(l, end(0, 0))
}

// TestP94: of what is joined the same tokens come; each stands at its place; more blanks, and comments, change nothing but places.
func TestP94(t *testing.T) {
	chance := rand.New(rand.NewSource(94))
	gaps := []string{" ", "\n", "\t", "  \n ", "#\n", " # if 07 $ é\n", "\n\n#x\n\t"}
	for range 3000 {
		l := pick(chance, chance.Intn(20))
		joined, err := lex.Join(l)
		if err != api.OK {
			t.Fatalf("%v: %s", l, err.Word())
		}
		got, _, err := lex.Tokens(joined)
		if err != api.OK || !lex.Same(got, l) {
			t.Fatalf("%q: %v, %s", joined, got, err.Word())
		}
		again, err := lex.Join(got)
		if err != api.OK || again != joined {
			t.Fatalf("%q is %q then", joined, again)
		}
		loose := gaps[chance.Intn(len(gaps))]
		for _, x := range l {
			loose += x.Text + gaps[chance.Intn(len(gaps))]
		}
		other, _, err := lex.Tokens(loose)
		if err != api.OK || !lex.Same(other, l) {
			t.Fatalf("%q: %v, %s", loose, other, err.Word())
		}
		lines := strings.SplitAfter(loose, "\n")
		for _, x := range other {
			if !strings.HasPrefix(lines[x.At.Line-1][x.At.Col-1:], x.Text) {
				t.Fatalf("%q: %v stands elsewhere", loose, x)
			}
		}
	}
}

// TestR4: what is handed in isn't changed; answers are new memory.
func TestR4(t *testing.T) {
	w, m := lex.Words(), lex.Marks()
	clear(w)
	clear(m)
	_, _ = append(lex.Words()[:1], "x"), append(lex.Marks()[:1], "x")
	if !slices.Equal(lex.Words(), words) || !slices.Equal(lex.Marks(), marks) || lex.IsName("if") {
		t.Error("an answer is kept")
	}
	wantTokens(t, "if<=", word("if", 1, 1), mark("<=", 1, 3), end(1, 5))
	l, _, _ := lex.Tokens("a = 1")
	keep := slices.Clone(l)
	if _, err := lex.Join(l); err != api.OK || !lex.Same(l, keep) || !slices.Equal(l, keep) {
		t.Error("tokens were changed")
	}
	clear(l)
	if again, _, _ := lex.Tokens("a = 1"); !slices.Equal(again, keep) {
		t.Error("tokens are kept")
	}
}
