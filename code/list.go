package code

import (
	"strconv"
	"strings"

	"baize/api"
)

// mostText is how many bytes a list has at most that is read.
const mostText = 1 << 17

// List gives instructions as a text.
func List(l []Instr) (string, api.Errno) {
	if _, err := Check(l, MostWords); err != api.OK {
		return "", err
	}
	var b strings.Builder
	for _, i := range l {
		b.WriteString(i.line())
		b.WriteByte('\n')
	}
	return b.String(), api.OK
}

// Parse gives the instructions that a text lists; else the line, from 1 on, where it doesn't.
func Parse(s string) ([]Instr, int, api.Errno) {
	if len(s) > mostText {
		return nil, 0, api.ErrRange
	}
	ops := operations()
	var l []Instr
	for line := 1; s != ""; line++ {
		text, rest, ended := strings.Cut(s, "\n")
		i, err := parseLine(text, ops)
		if err == api.OK && !ended {
			err = api.ErrShort
		}
		if err != api.OK {
			return nil, line, err
		}
		l = append(l, i)
		s = rest
	}
	if _, err := Check(l, MostWords); err != api.OK {
		return nil, 0, err
	}
	return l, 0, api.OK
}

// parseLine gives the instruction whose line it is, whether or not it may be.
func parseLine(line string, ops map[string]int) (Instr, api.Errno) {
	if line == "" {
		return Instr{}, api.ErrForm
	}
	words := strings.Split(line, " ")
	op, is := ops[words[0]]
	if !is {
		return Instr{}, api.ErrName
	}
	var three [most]int
	count := len(forms[op].has)
	for k, word := range words[1:] {
		if k == count {
			return Instr{}, api.ErrForm
		}
		n, err := parseNumber(word)
		if err != api.OK {
			return Instr{}, err
		}
		three[k] = n
	}
	if len(words)-1 < count {
		return Instr{}, api.ErrForm
	}
	return build(op, three), api.OK
}

// parseNumber gives the number that is told by decimal digits, in one way.
func parseNumber(s string) (int, api.Errno) {
	digits := strings.TrimPrefix(s, "-")
	if digits == "" || digits[0] == '0' && s != "0" || strings.Trim(digits, "0123456789") != "" {
		return 0, api.ErrForm
	}
	n, err := strconv.ParseInt(s, 10, 32)
	if err != nil {
		return 0, api.ErrRange
	}
	return int(n), api.OK
}
