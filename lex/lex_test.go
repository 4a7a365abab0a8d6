package lex_test

import (
	"math/rand"
	"regexp"
	"slices"
	"strconv"
	"strings"
	"testing"

	"tammy/api"
	"tammy/lex"
)

// oneToken is the document's words for a token; the longer sign stands ahead of the shorter one.
var oneToken = regexp.MustCompile(`^(?:([a-zA-Z][a-zA-Z0-9_]*)|([0-9]+)|(<=|:=|[(),|&~+\-=*{};:]))`)

// wantToks are the document's words for Toks.
func wantToks(s string) ([]api.Tok, int, api.Errno) {
	if len(s) > 2000 {
		return nil, 0, api.ErrFull
	}
	var out []api.Tok
	for at := 0; at < len(s); {
		if strings.Contains(" \t\n", s[at:at+1]) {
			at++
			continue
		}
		m := oneToken.FindStringSubmatch(s[at:])
		if m == nil || len(m[2]) > 9 || len(m[2]) > 1 && m[2][0] == '0' {
			return nil, at, api.ErrForm
		}
		kind := api.TSign
		if m[1] != "" {
			kind = api.TName
		} else if m[2] != "" {
			kind = api.TNumber
		}
		out = append(out, api.Tok{Kind: kind, Text: m[0], At: at})
		at += len(m[0])
	}
	return out, 0, api.OK
}

// check holds Toks, and what follows of it, against the document's words.
func check(t *testing.T, s string) {
	t.Helper()
	l, at, e := lex.Toks(s)
	want, wantAt, wantE := wantToks(s)
	if !slices.Equal(l, want) || at != wantAt || e != wantE {
		t.Fatalf("Toks(%q): %v, %d, %d, not %v, %d, %d", s, l, at, e, want, wantAt, wantE)
	}
	if e == api.OK {
		checkPlaces(t, s, l)
		checkText(t, l)
	}
}

// checkPlaces (P6.3): tokens' texts stand in s where they say; between them, ahead of them and behind them are only blanks.
func checkPlaces(t *testing.T, s string, l []api.Tok) {
	t.Helper()
	behind := 0
	for _, x := range l {
		if x.At < behind || x.Text == "" || !strings.HasPrefix(s[x.At:], x.Text) || strings.Trim(s[behind:x.At], " \t\n") != "" {
			t.Fatalf("Toks(%q): %v", s, x)
		}
		behind = x.At + len(x.Text)
	}
	if strings.Trim(s[behind:], " \t\n") != "" {
		t.Fatalf("Toks(%q): %v", s, l)
	}
}

// checkText (P6.2, P6.3): one blank between each two; the text of tokens has these, but for where they begin.
func checkText(t *testing.T, l []api.Tok) {
	t.Helper()
	text, behind := lex.Text(l), 0
	want := slices.Clone(l)
	for i, x := range l {
		if i > 0 {
			behind++
		}
		want[i].At = behind
		behind += len(x.Text)
	}
	if len(text) != behind || strings.Count(text, " ") != max(len(l)-1, 0) {
		t.Fatalf("Text(%v): %q", l, text)
	}
	if len(text) > api.MaxText {
		return
	}
	if got, at, e := lex.Toks(text); !slices.Equal(got, want) || at != 0 || e != api.OK {
		t.Fatalf("Toks(%q): %v, %d, %d, not %v", text, got, at, e, want)
	}
}

// TestToks (P6.1): ordinary texts, and where their tokens begin.
func TestToks(t *testing.T) {
	const name, number, sign = api.TName, api.TNumber, api.TSign
	for s, want := range map[string][]api.Tok{
		"":                           nil,
		" \t\n ":                     nil,
		"X<=c":                       {{Kind: name, Text: "X", At: 0}, {Kind: sign, Text: "<=", At: 1}, {Kind: name, Text: "c", At: 3}},
		"\n\tX":                      {{Kind: name, Text: "X", At: 2}},
		"X\n":                        {{Kind: name, Text: "X", At: 0}},
		"let a <= X":                 {{Kind: name, Text: "let", At: 0}, {Kind: name, Text: "a", At: 4}, {Kind: sign, Text: "<=", At: 6}, {Kind: name, Text: "X", At: 9}},
		"aB_9z X_":                   {{Kind: name, Text: "aB_9z", At: 0}, {Kind: name, Text: "X_", At: 6}},
		"12ab":                       {{Kind: number, Text: "12", At: 0}, {Kind: name, Text: "ab", At: 2}},
		"0a 0 0":                     {{Kind: number, Text: "0", At: 0}, {Kind: name, Text: "a", At: 1}, {Kind: number, Text: "0", At: 3}, {Kind: number, Text: "0", At: 5}},
		"a007":                       {{Kind: name, Text: "a007", At: 0}},
		"999999999":                  {{Kind: number, Text: "999999999", At: 0}},
		"999999999 1":                {{Kind: number, Text: "999999999", At: 0}, {Kind: number, Text: "1", At: 10}},
		"f(P):P{}":                   {{Kind: name, Text: "f", At: 0}, {Kind: sign, Text: "(", At: 1}, {Kind: name, Text: "P", At: 2}, {Kind: sign, Text: ")", At: 3}, {Kind: sign, Text: ":", At: 4}, {Kind: name, Text: "P", At: 5}, {Kind: sign, Text: "{", At: 6}, {Kind: sign, Text: "}", At: 7}},
		"<==":                        {{Kind: sign, Text: "<=", At: 0}, {Kind: sign, Text: "=", At: 2}},
		"=<=":                        {{Kind: sign, Text: "=", At: 0}, {Kind: sign, Text: "<=", At: 1}},
		"::==":                       {{Kind: sign, Text: ":", At: 0}, {Kind: sign, Text: ":=", At: 1}, {Kind: sign, Text: "=", At: 3}},
		": =":                        {{Kind: sign, Text: ":", At: 0}, {Kind: sign, Text: "=", At: 2}},
		":=:":                        {{Kind: sign, Text: ":=", At: 0}, {Kind: sign, Text: ":", At: 2}},
		"+-=":                        {{Kind: sign, Text: "+", At: 0}, {Kind: sign, Text: "-", At: 1}, {Kind: sign, Text: "=", At: 2}},
		"-5":                         {{Kind: sign, Text: "-", At: 0}, {Kind: number, Text: "5", At: 1}},
		"X=&Y;Z=X;":                  {{Kind: name, Text: "X", At: 0}, {Kind: sign, Text: "=", At: 1}, {Kind: sign, Text: "&", At: 2}, {Kind: name, Text: "Y", At: 3}, {Kind: sign, Text: ";", At: 4}, {Kind: name, Text: "Z", At: 5}, {Kind: sign, Text: "=", At: 6}, {Kind: name, Text: "X", At: 7}, {Kind: sign, Text: ";", At: 8}},
		"abcdefghijklmnopqrstuvwxyz": {{Kind: name, Text: "abcdefghijklmnopqrstuvwxyz", At: 0}}, // longer than any name of chapter 1
	} {
		if l, at, e := lex.Toks(s); !slices.Equal(l, want) || at != 0 || e != api.OK {
			t.Errorf("Toks(%q): %v, %d, %d", s, l, at, e)
		}
		check(t, s)
	}
}

// TestSigns (P6.1): each sign, by itself, and next to itself.
func TestSigns(t *testing.T) {
	for _, sign := range []string{"(", ")", ",", "|", "&", "~", "+", "-", "=", "*", "{", "}", ";", ":", "<=", ":="} {
		one := api.Tok{Kind: api.TSign, Text: sign}
		two := api.Tok{Kind: api.TSign, Text: sign, At: len(sign)}
		if l, _, e := lex.Toks(sign); !slices.Equal(l, []api.Tok{one}) || e != api.OK {
			t.Errorf("Toks(%q): %v, %d", sign, l, e)
		}
		if l, _, e := lex.Toks(sign + sign); !slices.Equal(l, []api.Tok{one, two}) || e != api.OK {
			t.Errorf("Toks(%q): %v, %d", sign+sign, l, e)
		}
	}
}

// TestErrForm (P6.1): where neither a blank nor a token stands, and at the beginning of a number that may not be; the first such place counts.
func TestErrForm(t *testing.T) {
	for s, want := range map[string]int{
		"<":                                      0,
		"X<":                                     1,
		"X < =":                                  2,
		"<<=":                                    0,
		"<=<":                                    2,
		"_":                                      0,
		"a _":                                    2,
		"1_":                                     1,
		"X\rY":                                   1, // no end of a line but byte 10
		"\v":                                     0,
		"\f":                                     0,
		"\x00":                                   0,
		"a\x7f":                                  1,
		"\u00a0X":                                0, // a blank, but not one of the three
		"Xé":                                     1,
		"Ⅷ":                                      0,
		"\xff":                                   0,
		"a.b":                                    1,
		"X>=Y":                                   1,
		"!":                                      0,
		"[":                                      0,
		"00":                                     0,
		"01":                                     0,
		"007":                                    0,
		"~01(X)":                                 1,
		" a 00a":                                 3,
		"0 01":                                   2,
		"1234567890":                             0,
		"X=1234567890;":                          2,
		"0123456789":                             0,
		"000000000":                              0,
		"1 <":                                    2,
		"01 <":                                   0,
		"< 01":                                   0,
		"1234567890 < 0":                         0,
		"(a,b ?":                                 5,
		"?" + strings.Repeat("(", api.MaxText-1): 0,
		strings.Repeat("(", api.MaxText-1) + "?": api.MaxText - 1,
		strings.Repeat("9", api.MaxText):         0,
	} {
		if l, at, e := lex.Toks(s); len(l) != 0 || at != want || e != api.ErrForm {
			t.Errorf("Toks(%q): %v, %d, %d", s, l, at, e)
		}
		check(t, s)
	}
}

// TestErrFull (P6.1): bytes are counted, blanks too; too many come ahead of all that is wrong among them.
func TestErrFull(t *testing.T) {
	for _, one := range []string{"a", " ", "(", "\n", "?", "9", "0", "_", "\xc3"} {
		s := strings.Repeat(one, api.MaxText+1)
		for _, long := range []string{s, "?" + s, s + s, strings.Repeat(s, 1000)} {
			if l, at, e := lex.Toks(long); len(l) != 0 || at != 0 || e != api.ErrFull {
				t.Errorf("Toks of %d times %q: %v, %d, %d", len(long), one, l, at, e)
			}
		}
		check(t, s[:api.MaxText])
		check(t, s[:api.MaxText-1])
	}
	long := strings.Repeat("a", api.MaxText)
	if l, at, e := lex.Toks(long); !slices.Equal(l, []api.Tok{{Kind: api.TName, Text: long}}) || at != 0 || e != api.OK {
		t.Errorf("Toks of %d bytes: %v, %d, %d", len(long), l, at, e)
	}
	if l, _, e := lex.Toks(strings.Repeat("é", api.MaxText/2) + "a"); len(l) != 0 || e != api.ErrFull {
		t.Errorf("Toks of few runes, but too many bytes: %v, %d", l, e)
	}
}

// TestAllBytes (P6.1, P6.3): all texts of up to two bytes, by the document's words, and each byte within and behind tokens.
func TestAllBytes(t *testing.T) {
	for a := range 256 {
		one := string([]byte{byte(a)})
		check(t, one)
		for _, s := range []string{"ab", "Z9_", "12", "<=", ":", " "} {
			check(t, s+one)
			check(t, one+s)
			check(t, s+one+s)
		}
		for b := range 256 {
			check(t, one+string([]byte{byte(b)}))
		}
	}
}

// TestAllShort (P6.1, P6.3): all texts of up to five bytes of one of each kind, by the document's words.
func TestAllShort(t *testing.T) {
	bytes := []byte("aZ_09<=: ?(")
	var from func(s []byte, left int)
	from = func(s []byte, left int) {
		check(t, string(s))
		if left == 0 {
			return
		}
		for _, b := range bytes {
			from(append(s, b), left-1)
		}
	}
	from(make([]byte, 0, 5), 5)
}

// TestLong (P6.1, P6.3): long texts by chance, of all bytes that tokens and blanks have, and sometimes of others.
func TestLong(t *testing.T) {
	const pieces = "abcxyzABCXYZ__0123456789(),|&~+-=*{};: \t\n"
	for seed := range 3000 {
		r := rand.New(rand.NewSource(int64(seed)))
		var s []byte
		for range r.Intn(api.MaxText + 20) {
			s = append(s, pieces[r.Intn(len(pieces))])
		}
		if r.Intn(2) == 0 { // a nought ahead of others, and a "_" that begins, else end nearly all of them soon
			for i, b := range s {
				if b == '0' || b == '_' {
					s[i] = ' '
				}
			}
		}
		if r.Intn(4) == 0 && len(s) > 0 {
			s[r.Intn(len(s))] = byte(r.Intn(256))
		}
		check(t, string(s))
	}
}

// TestText (P6.2): one blank between each two, none elsewhere; of any row of tokens, wherever they say that they begin.
func TestText(t *testing.T) {
	for i, x := range []struct {
		l    []api.Tok
		want string
	}{
		{nil, ""},
		{[]api.Tok{}, ""},
		{[]api.Tok{{Kind: api.TName, Text: "X", At: 7}}, "X"},
		{[]api.Tok{{Kind: api.TName, Text: "X"}, {Kind: api.TSign, Text: "<=", At: 1}, {Kind: api.TNumber, Text: "1", At: 3}}, "X <= 1"},
		{[]api.Tok{{Text: "b", At: 3}, {Text: "a", At: -3}, {Text: "a", At: 3}}, "b a a"},
		{[]api.Tok{{Kind: api.TSign, Text: ":"}, {Kind: api.TSign, Text: "="}}, ": ="},
		{[]api.Tok{{}, {}, {}}, "  "},
		{[]api.Tok{{Kind: 9, Text: "?"}, {Kind: -1, Text: " é\x00"}}, "?  é\x00"},
	} {
		if got := lex.Text(x.l); got != x.want {
			t.Errorf("%d: Text(%v): %q", i, x.l, got)
		}
	}
}

// TestTextLong (P6.2, P6.3): the text of a text's tokens may be longer than it; as long as it has at most MaxText bytes, it has these tokens.
func TestTextLong(t *testing.T) {
	for many, want := range map[int]api.Errno{1000: api.OK, 1001: api.ErrFull, api.MaxText: api.ErrFull} {
		l, _, e := lex.Toks(strings.Repeat("(", many))
		text := lex.Text(l)
		if e != api.OK || text != strings.Repeat("( ", many-1)+"(" {
			t.Fatalf("%d signs: %d, %q", many, e, text)
		}
		if got, _, e := lex.Toks(text); e != want || e == api.OK && len(got) != many {
			t.Errorf("%d signs: %d", many, e)
		}
	}
}

// TestNumber (P6.2): ordinary numbers, those at the ends, and texts that are none.
func TestNumber(t *testing.T) {
	for s, want := range map[string]int{"0": 0, "1": 1, "9": 9, "10": 10, "42": 42, "100": 100, "1000000": 1000000, "123456789": 123456789, "100000000": 100000000, "999999999": 999999999} {
		if n, is := lex.Number(s); n != want || !is {
			t.Errorf("Number(%q): %d, %v", s, n, is)
		}
	}
	for _, s := range []string{
		"", "00", "01", "007", "000000000", "012345678", "1000000000", "9999999999", "0000000001", "18446744073709551616", "-1", "+1", "-0", " 1", "1 ", "1\n", "\t1", "1 2", "1,2", "1_0", "0x1", "1e1", "1.0", "a", "a1", "1a", "X", "<=", "+", "_", "1\x00", "\x00", "١", "²", "1é", "?",
		strings.Repeat("1", api.MaxText), strings.Repeat("1", 1<<20), strings.Repeat("0", 1<<20),
	} {
		if n, is := lex.Number(s); n != 0 || is {
			t.Errorf("Number(%.40q): %d, %v", s, n, is)
		}
	}
}

// TestNumberAll (P6.2): Number knows what Toks knows, at all texts of up to two bytes, and at numbers of all lengths.
func TestNumberAll(t *testing.T) {
	for a := range 256 {
		checkNumber(t, string([]byte{byte(a)}))
		for b := range 256 {
			checkNumber(t, string([]byte{byte(a), byte(b)}))
		}
	}
	r := rand.New(rand.NewSource(1))
	for many := range 14 {
		for range 300 {
			s := make([]byte, many)
			for i := range s {
				s[i] = byte('0' + r.Intn(10))
			}
			checkNumber(t, string(s))
		}
	}
}

// checkNumber holds Number against the tokens, and the library's own reading.
func checkNumber(t *testing.T, s string) {
	t.Helper()
	l, _, _ := lex.Toks(s)
	want, wantIs := 0, len(l) == 1 && l[0].Kind == api.TNumber && l[0].Text == s
	if wantIs {
		want, _ = strconv.Atoi(s)
	}
	if n, is := lex.Number(s); n != want || is != wantIs {
		t.Fatalf("Number(%q): %d, %v", s, n, is)
	}
}

// TestSame (P6.2): the same in all that tokens have, in their order, and in how many they are.
func TestSame(t *testing.T) {
	x, y := api.Tok{Kind: api.TName, Text: "a", At: 1}, api.Tok{Kind: api.TSign, Text: ":", At: 2}
	rows := [][]api.Tok{
		nil, {x}, {y}, {x, y}, {y, x}, {x, x}, {x, y, y}, {{}},
		{{Kind: api.TSign, Text: "a", At: 1}}, {{Kind: api.TName, Text: "b", At: 1}}, {{Kind: api.TName, Text: "A", At: 1}}, {{Kind: api.TName, Text: "a", At: 0}}, {{Kind: api.TName, At: 1}},
		{x, {Kind: api.TNumber, Text: ":", At: 2}}, {x, {Kind: api.TSign, Text: ":=", At: 2}}, {x, {Kind: api.TSign, Text: ":", At: 3}},
	}
	for i, a := range rows {
		for j, b := range rows {
			if lex.Same(a, slices.Clone(b)) != (i == j) {
				t.Errorf("Same(%v, %v) is %v", a, b, i != j)
			}
		}
	}
	if !lex.Same(nil, []api.Tok{}) || !lex.Same([]api.Tok{}, nil) {
		t.Error("lists without elements are the same")
	}
	a := []api.Tok{x, y}
	if !lex.Same(a, a) {
		t.Error("a row is the same as itself")
	}
}

// TestMemory (R3, R4): what is handed in stays as it is, with the room behind it; an answer shares nothing with what another call answers.
func TestMemory(t *testing.T) {
	const s = "f(P):P{} X<=12;"
	first, _, _ := lex.Toks(s)
	was := slices.Clone(first)
	second, _, _ := lex.Toks(s)
	if !slices.Equal(first, second) {
		t.Fatal("the answers differ")
	}
	for i := range second[:cap(second)] {
		second[:cap(second)][i] = api.Tok{Kind: -9, Text: "?", At: -9}
	}
	if !slices.Equal(first, was) {
		t.Error("answers share memory")
	}
	if third, _, _ := lex.Toks(s); !slices.Equal(third, was) {
		t.Error("an answer is kept")
	}
	room := append(slices.Clone(was), api.Tok{Kind: 7, Text: "behind", At: 7})
	wasRoom := slices.Clone(room)
	text := lex.Text(room[:len(was)])
	lex.Same(room[:len(was)], room)
	if !slices.Equal(room, wasRoom) || text != lex.Text(was) || text != "f ( P ) : P { } X <= 12 ;" {
		t.Errorf("Text writes into what it is given: %q", text)
	}
}
