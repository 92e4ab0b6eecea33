package lex_test

import (
	"slices"
	"strings"
	"testing"

	"sibyl/api"
	"sibyl/lex"
)

func tok(kind, at int, text string, n int64) api.Token {
	return api.Token{Kind: kind, At: at, Text: text, N: n}
}

func lexes(t *testing.T, s string, want ...api.Token) {
	t.Helper()
	l, at, err := lex.Lex(s)
	if !slices.Equal(l, want) || at != len(s) || err != api.OK {
		t.Errorf("Lex(%q): %v, %d, %d, want %v", s, l, at, err, want)
	}
}

func refuses(t *testing.T, s string, place int, why api.Errno) {
	t.Helper()
	l, at, err := lex.Lex(s)
	if len(l) != 0 || at != place || err != why {
		t.Errorf("Lex(%.40q): %v, %d, %d, want none, %d, %d", s, l, at, err, place, why)
	}
}

// P2.1
func TestTokens(t *testing.T) {
	name, typ, num, sign := api.TokName, api.TokType, api.TokInt, api.TokSign
	lexes(t, "")
	lexes(t, " \t\n ")
	lexes(t, "a.x<=12", tok(name, 0, "a", 0), tok(sign, 1, ".", 0), tok(name, 2, "x", 0), tok(sign, 3, "<=", 0), tok(num, 5, "12", 12))
	lexes(t, "\tA\nH ", tok(typ, 1, "A", 0), tok(typ, 3, "H", 7))
	lexes(t, "a1b2B", tok(name, 0, "a1b2", 0), tok(typ, 4, "B", 1))
	lexes(t, "007 0", tok(num, 0, "007", 7), tok(num, 4, "0", 0))
	lexes(t, "9223372036854775807", tok(num, 0, "9223372036854775807", 1<<63-1))
	lexes(t, "0009223372036854775807", tok(num, 0, "0009223372036854775807", 1<<63-1))
	lexes(t, "1.2", tok(num, 0, "1", 1), tok(sign, 1, ".", 0), tok(num, 2, "2", 2))
	lexes(t, "A+b", tok(typ, 0, "A", 0), tok(sign, 1, "+", 0), tok(name, 2, "b", 0))
	at := 0
	var l []api.Token
	text := "!= <= >= , + - * / % = < > . # ! ( )"
	for _, s := range strings.Fields(text) {
		l = append(l, tok(sign, at, s, 0))
		at += len(s) + 1
	}
	lexes(t, text, l...)
	lexes(t, "==", tok(sign, 0, "=", 0), tok(sign, 1, "=", 0))
	lexes(t, ",=", tok(sign, 0, ",", 0), tok(sign, 1, "=", 0))
	lexes(t, "!=", tok(sign, 0, "!=", 0))
	lexes(t, "!==", tok(sign, 0, "!=", 0), tok(sign, 2, "=", 0))
	lexes(t, "=!<=>", tok(sign, 0, "=", 0), tok(sign, 1, "!", 0), tok(sign, 2, "<=", 0), tok(sign, 4, ">", 0))
}

// P2.1
func TestNoToken(t *testing.T) {
	for _, c := range []struct {
		s  string
		at int
	}{
		{"a ?", 2}, {"I", 0}, {"Z", 0}, {"AB", 0}, {"Ab", 0}, {"A1", 0}, {"1a", 0}, {"1A", 0}, {"12 3z", 3},
		{"9223372036854775808", 0}, {" 99999999999999999999999", 1}, {"a\rb", 1}, {"a\vb", 1}, {"\x00", 0},
		{"é", 0}, {"a é", 2}, {"a_b", 1}, {"A_", 1}, {"A@", 1}, {"1_", 1}, {"1@", 1}, {"AA", 0}, {"AZ", 0}, {"Az", 0}, {"1Z", 0}, {"1z", 0}, {"A9", 0}, {"A0", 0}, {"&", 0}, {"a ; ?", 2}, {"A é", 2}, {"\u00a0", 0},
	} {
		refuses(t, c.s, c.at, api.ErrLex)
	}
}

// P2.1
func TestTooManyTokens(t *testing.T) {
	full := strings.Repeat("a ", api.MaxTokens)
	if l, at, err := lex.Lex(full); len(l) != api.MaxTokens || at != len(full) || err != api.OK {
		t.Errorf("Lex of as many as may be: %d, %d, %d", len(l), at, err)
	}
	refuses(t, full+"\n a ?", len(full)+2, api.ErrLimit)
	refuses(t, full+" ? a", len(full)+1, api.ErrLex)
	refuses(t, "? "+full+"a", 0, api.ErrLex)
	refuses(t, strings.Repeat("a ", 199)+"? a a a", 398, api.ErrLex)
	refuses(t, strings.Repeat("(", 1<<20), api.MaxTokens, api.ErrLimit)
}

// P2.2
func TestOneByOne(t *testing.T) {
	got := slices.Collect(lex.Each("seq A a ? b"))
	want, _, _ := lex.Lex("seq A a")
	if !slices.Equal(got, want) {
		t.Errorf("Each: %v, want %v", got, want)
	}
	if l := slices.Collect(lex.Each(" \n")); len(l) != 0 {
		t.Errorf("Each of blanks: %v", l)
	}
	if l := slices.Collect(lex.Each("?a")); len(l) != 0 {
		t.Errorf("Each of what has none: %v", l)
	}
	if l := slices.Collect(lex.Each(strings.Repeat("-", 1000))); len(l) != 1000 || l[999] != tok(api.TokSign, 999, "-", 0) {
		t.Errorf("Each of too many: %d", len(l))
	}
	n := 0
	for range lex.Each("a b c d") {
		if n++; n == 2 {
			break
		}
	}
	if n != 2 {
		t.Errorf("left off at %d", n)
	}
}

// P2.3
func TestJoined(t *testing.T) {
	if s := lex.Join(nil); s != "" {
		t.Errorf("Join of none: %q", s)
	}
	l, _, _ := lex.Lex("a.x<=  012")
	if s := lex.Join(l); s != "a . x <= 012" {
		t.Errorf("Join: %q", s)
	}
	if s := lex.Join(l[:1]); s != "a" {
		t.Errorf("Join of one: %q", s)
	}
	if s := lex.Join([]api.Token{{}, {Text: "?"}, {}}); s != " ? " {
		t.Errorf("Join of what may not be: %q", s)
	}
}

// P2.4
func TestJoinedAgain(t *testing.T) {
	for _, s := range []string{"", "a<b=!=-1", "seq A+a,!B b within 007by key", "(((", "<=<= =", "aB C", "A\n\tB"} {
		a, _, _ := lex.Lex(s)
		b, _, err := lex.Lex(lex.Join(a))
		for i := range b {
			b[i].At = a[min(i, len(a)-1)].At
		}
		if err != api.OK || !slices.Equal(a, b) {
			t.Errorf("%q: %v, joined %v", s, a, b)
		}
	}
}
