package lex

import (
	"slices"
	"strconv"
	"strings"

	"baize/api"
)

const (
	// wordText has the language's words, in their order.
	wordText = "game seats stake var start turn play silent pay end if then else for do refuse roll seat over rest and or not"
	// mostName is how many bytes a name may have.
	mostName = 30
	// comment is the byte from which on all is one, up to the line's end.
	comment = '#'
)

// marks are the language's signs, in their order.
var marks = [...]string{"[", "]", "(", ")", "=", "!=", "<", "<=", ">", ">=", "+", "-", "*", "/", "%", ","}

// text is what is left of one, from a place on.
type text struct {
	left string
	at   Place
}

// take takes the piece that has all bytes for as long as the next one goes on with it.
func (t *text) take(goesOn func(next byte) bool) string {
	size := 0
	for size < len(t.left) && goesOn(t.left[size]) {
		if t.left[size] == '\n' {
			t.at = Place{Line: t.at.Line + 1}
		}
		t.at.Col++
		size++
	}
	piece := t.left[:size]
	t.left = t.left[size:]
	return piece
}

// goesOn gives, of the byte with which a piece begins, the function that is
// asked byte by byte, that one too, whether the piece goes on with it.
func goesOn(first byte) func(next byte) bool {
	switch {
	case isBlank(first):
		return isBlank
	case first == comment:
		return func(next byte) bool { return next != '\n' }
	case isLetter(first), isDigit(first):
		return isPart
	}
	var ahead []byte
	return func(next byte) bool {
		ahead = append(ahead, next)
		return slices.ContainsFunc(Marks(), func(mark string) bool {
			return strings.HasPrefix(mark, string(ahead))
		})
	}
}

// token gives the token that a piece is, at no place.
func token(piece string, words map[string]bool) (Token, api.Errno) {
	switch {
	case slices.Contains(Marks(), piece):
		return Token{Kind: Mark, Text: piece}, api.OK
	case piece == "" || piece[0] == '_' || !every(piece, isPart):
		return Token{}, api.ErrForm
	case isDigit(piece[0]):
		return number(piece)
	case len(piece) > mostName:
		return Token{}, api.ErrRange
	case words[piece]:
		return Token{Kind: Word, Text: piece}, api.OK
	}
	return Token{Kind: Name, Text: piece}, api.OK
}

// number gives the token of a piece that begins with a digit.
func number(piece string) (Token, api.Errno) {
	if !every(piece, isDigit) || len(piece) > 1 && piece[0] == '0' {
		return Token{}, api.ErrForm
	}
	n, err := strconv.ParseInt(piece, 10, 32)
	if err != nil { // of digits alone, so it is too great
		return Token{}, api.ErrRange
	}
	return Token{Kind: Number, Text: piece, N: int(n)}, api.OK
}

// wordMap gives the language's words, to look for pieces among them.
func wordMap() map[string]bool {
	m := map[string]bool{}
	for _, word := range Words() {
		m[word] = true
	}
	return m
}

// every tells whether all bytes of a text are so.
func every(s string, is func(byte) bool) bool {
	for i := range len(s) {
		if !is(s[i]) {
			return false
		}
	}
	return true
}

func isBlank(b byte) bool {
	return b == ' ' || b == '\t' || b == '\n'
}

func isLetter(b byte) bool {
	return 'a' <= b && b <= 'z' || 'A' <= b && b <= 'Z'
}

func isDigit(b byte) bool {
	return '0' <= b && b <= '9'
}

// isPart tells whether a byte may stand within a name.
func isPart(b byte) bool {
	return isLetter(b) || isDigit(b) || b == '_'
}
