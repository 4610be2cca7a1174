package lex_test

import (
	"math"
	"math/rand"
	"regexp"
	"slices"
	"strconv"
	"strings"
	"testing"

	"chrysalis/api"
	"chrysalis/lex"
)

var keywords = []string{
	"module", "use", "fn", "let", "if", "else", "while", "break", "continue", "return",
	"put", "emit", "yield", "nil", "state", "spawn", "len", "not", "and", "or",
}

var marks = []string{
	"==", "!=", "<=", "..",
	"(", ")", "{", "}", "[", "]", ",", ";", ".", "/", "=", "<", "+", "-", "*", "%",
}

// blanks are texts without tokens; a comment with an end can precede a token.
var blanks = []string{" ", "\t", "\n", "\r", "  ", " \t\n\r", "#\n", "# x = \"\n", "#\xff!\n", "# a # b\n\n"}

func name(s string, at int) api.Token {
	return api.Token{Kind: api.TName, Text: s, At: at}
}

func key(s string, at int) api.Token {
	return api.Token{Kind: api.TKey, Text: s, At: at}
}

func mark(s string, at int) api.Token {
	return api.Token{Kind: api.TMark, Text: s, At: at}
}

func number(n int64, at int) api.Token {
	return api.Token{Kind: api.TInt, Text: strconv.FormatInt(n, 10), N: n, At: at}
}

func text(s string, at int) api.Token {
	return api.Token{Kind: api.TText, Text: s, At: at}
}

func checkTokens(t *testing.T, s string, want ...api.Token) {
	t.Helper()
	got, err, at := lex.Scan(s)
	if !slices.Equal(got, want) || err != api.OK || at != 0 {
		t.Errorf("Scan(%q) = %v, %d, %d; want %v", s, got, err, at, want)
	}
}

func checkError(t *testing.T, s string, want api.Errno, wantAt int) {
	t.Helper()
	got, err, at := lex.Scan(s)
	if len(got) != 0 || err != want || at != wantAt {
		t.Errorf("Scan(%q) = %v, %d, %d; want error %d at %d", s, got, err, at, want, wantAt)
	}
}

// Examples of the chapter

func TestExamples(t *testing.T) {
	checkTokens(t, "let x=5; # y", key("let", 0), name("x", 4), mark("=", 5), number(5, 6), mark(";", 7))
	checkTokens(t, "a..b", name("a", 0), mark("..", 1), name("b", 3))
	checkError(t, "07", api.ErrToken, 0)
	checkTokens(t, `"a\nb"`, text("a\nb", 0))
	checkError(t, "!", api.ErrSign, 0)
}

// P8.1: blanks and comments

func TestScanSkipsBlanksAndComments(t *testing.T) {
	checkTokens(t, "")
	for _, s := range []string{" ", "\t\n\r ", "#", "# let \"\\! \xff", "#\n", "#\n\n#", "##", "#\r#\t\n \r"} {
		checkTokens(t, s)
	}
	for _, s := range blanks {
		checkTokens(t, s+"a"+s+"1"+s, name("a", len(s)), number(1, 2*len(s)+1))
		checkTokens(t, "a"+s+"b", name("a", 0), name("b", 1+len(s)))
		checkTokens(t, "="+s+"=", mark("=", 0), mark("=", 1+len(s)))
	}
	checkTokens(t, "a#b\nc#d", name("a", 0), name("c", 4))
	checkTokens(t, "a# b\r c\n;", name("a", 0), mark(";", 8))
	checkTokens(t, `"#"#`, text("#", 0))
	for _, s := range []string{"\v", "\f", "\x00", "\u00a0", "\u0085", "\u2028", "\ufeff"} {
		checkError(t, "a "+s+" b", api.ErrSign, 2)
	}
}

// P8.1: names and keywords

func TestScanNames(t *testing.T) {
	for _, s := range []string{
		"a", "z", "m", "az", "a0", "z9", "a_", "a__0", "x1y2", "fnx", "fn_", "fn1", "lets", "modul", "modules", "i", "o", "ands",
		strings.Repeat("a", api.MaxName), "a" + strings.Repeat("_", api.MaxName-1), "z" + strings.Repeat("9", api.MaxName-1),
	} {
		checkTokens(t, s, name(s, 0))
		checkTokens(t, " "+s+";", name(s, 1), mark(";", 1+len(s)))
		checkTokens(t, "1"+s, number(1, 0), name(s, 1))
	}
	for _, s := range keywords {
		checkTokens(t, s, key(s, 0))
		checkTokens(t, "("+s+")", mark("(", 0), key(s, 1), mark(")", 1+len(s)))
		checkTokens(t, "x"+s, name("x"+s, 0))
		checkTokens(t, s+"x", name(s+"x", 0))
	}
	checkTokens(t, "let let", key("let", 0), key("let", 4))
}

func TestScanRefusesLongNames(t *testing.T) {
	for _, size := range []int{api.MaxName + 1, api.MaxName + 2, 100, api.MaxText} {
		checkError(t, strings.Repeat("a", size), api.ErrToken, 0)
		checkError(t, "a"+strings.Repeat("_", size-1), api.ErrToken, 0)
		checkError(t, "a"+strings.Repeat("0", size-1), api.ErrToken, 0)
	}
	long := strings.Repeat("b", api.MaxName+1)
	checkError(t, "a = "+long+";", api.ErrToken, 4)
	checkError(t, "1"+long, api.ErrToken, 1)
	checkError(t, "continuecontinue1", api.ErrToken, 0)
	checkTokens(t, "a "+strings.Repeat("b ", api.MaxName+1), append([]api.Token{name("a", 0)}, func() (l []api.Token) {
		for i := range api.MaxName + 1 {
			l = append(l, name("b", 2+2*i))
		}
		return l
	}()...)...)
}

// P8.1: integers

func TestScanInts(t *testing.T) {
	for _, n := range []int64{0, 1, 9, 10, 42, 100, 1<<31 - 1, 1 << 31, 1<<32 - 1, 1 << 32, 1 << 53, 1234567890123456789, math.MaxInt64 - 1, math.MaxInt64} {
		s := strconv.FormatInt(n, 10)
		checkTokens(t, s, number(n, 0))
		checkTokens(t, "-"+s+"x", mark("-", 0), number(n, 1), name("x", 1+len(s)))
	}
	checkTokens(t, "0 0", number(0, 0), number(0, 2))
	checkTokens(t, "0x1f", number(0, 0), name("x1f", 1))
	checkTokens(t, "1e5", number(1, 0), name("e5", 1))
	checkTokens(t, "1.5", number(1, 0), mark(".", 1), number(5, 2))
	checkTokens(t, "1..2", number(1, 0), mark("..", 1), number(2, 3))
	checkTokens(t, "10/2", number(10, 0), mark("/", 2), number(2, 3))
	checkError(t, "1_0", api.ErrSign, 1)
	checkError(t, "1²", api.ErrSign, 1)
	checkError(t, "1٣", api.ErrSign, 1)
}

func TestScanRefusesInts(t *testing.T) {
	for _, s := range []string{
		"00", "01", "07", "09", "000", "0123456789", "00000000000000000001",
		"9223372036854775808", "9223372036854775809", "9223372036854775810", "10000000000000000000",
		"18446744073709551615", "18446744073709551616", "18446744073709551617", "99999999999999999999",
		strings.Repeat("9", 100), "1" + strings.Repeat("0", api.MaxText-1), strings.Repeat("0", api.MaxText),
	} {
		checkError(t, s, api.ErrToken, 0)
		if len(s) < api.MaxText-10 {
			checkError(t, "a = -"+s+"x;", api.ErrToken, 5)
		}
	}
}

// P8.1: texts

func TestScanTexts(t *testing.T) {
	for _, c := range []struct{ s, want string }{
		{`""`, ""},
		{`"a"`, "a"},
		{`" "`, " "},
		{`"\n"`, "\n"},
		{`"\""`, `"`},
		{`"\\"`, `\`},
		{`"\\n"`, `\n`},
		{`"\\\n"`, "\\\n"},
		{`"\\\""`, `\"`},
		{`"\\\\"`, `\\`},
		{`"\"\""`, `""`},
		{`"\n\n"`, "\n\n"},
		{`"a\nb"`, "a\nb"},
		{`"ab\"cd\\ef\ngh"`, "ab\"cd\\ef\ngh"},
		{"\"\t\r\x00\x01\x7f\"", "\t\r\x00\x01\x7f"},
		{"\"\x80\xff\xfe\xc3\"", "\x80\xff\xfe\xc3"},
		{"\"\xe2\x82\\n\xac\"", "\xe2\x82\n\xac"},
		{"\"\xe2\x82\xac\U0001f600\ufffd\"", "\xe2\x82\xac\U0001f600\ufffd"},
		{`"# no comment"`, "# no comment"},
		{`"let 07 !"`, "let 07 !"},
		{`"` + strings.Repeat("x", api.MaxText-2) + `"`, strings.Repeat("x", api.MaxText-2)},
		{`"` + strings.Repeat(`\n`, 2000) + `"`, strings.Repeat("\n", 2000)},
	} {
		checkTokens(t, c.s, text(c.want, 0))
		if len(c.s) < api.MaxText-10 {
			checkTokens(t, "a "+c.s+c.s+"1", name("a", 0), text(c.want, 2), text(c.want, 2+len(c.s)), number(1, 2+2*len(c.s)))
		}
	}
}

func TestScanRefusesTexts(t *testing.T) {
	for _, s := range []string{
		`"`, `"a`, `"\"`, `"\\\"`, `"a\`, `"\`, `"\n`, "\"\n\"", "\"a\nb\"", "\"a\\\nb\"", "\"\n", "\"a\r\nb\"",
		`"\a"`, `"\t"`, `"\r"`, `"\0"`, `"\x41"`, `"\'"`, `"\ "`, `"\N"`, `"ab\qcd"`, `"\\\q"`, `"\n\"\u"`, "\"\\\xff\"", "\"\\\ufffd\"", "\"\\\xee\"",
		`"` + strings.Repeat("x", api.MaxText-1),
	} {
		checkError(t, s, api.ErrToken, 0)
		if len(s) < api.MaxText-10 {
			checkError(t, `"" `+s, api.ErrToken, 3)
			// Whatever follows, the error at the " is the first one.
			checkError(t, `x`+s+"\n!\"", api.ErrToken, 1)
		}
	}
	checkError(t, `""""`+`"`, api.ErrToken, 4)
}

// P8.1: marks

func TestScanMarks(t *testing.T) {
	for _, s := range marks {
		checkTokens(t, s, mark(s, 0))
		checkTokens(t, "a"+s+"1", name("a", 0), mark(s, 1), number(1, 1+len(s)))
		checkTokens(t, s+" "+s, mark(s, 0), mark(s, 1+len(s)))
	}
	checkTokens(t, "===", mark("==", 0), mark("=", 2))
	checkTokens(t, "====", mark("==", 0), mark("==", 2))
	checkTokens(t, "!===", mark("!=", 0), mark("==", 2))
	checkTokens(t, "<==", mark("<=", 0), mark("=", 2))
	checkTokens(t, "<<=", mark("<", 0), mark("<=", 1))
	checkTokens(t, "=<", mark("=", 0), mark("<", 1))
	checkTokens(t, "...", mark("..", 0), mark(".", 2))
	checkTokens(t, "....", mark("..", 0), mark("..", 2))
	checkTokens(t, "--", mark("-", 0), mark("-", 1))
	checkTokens(t, "//", mark("/", 0), mark("/", 1))
}

func TestScanRefusesBytes(t *testing.T) {
	begins := "abcdefghijklmnopqrstuvwxyz0123456789\"(){}[],;./=<+-*%# \t\n\r"
	for c := range 256 {
		s := string([]byte{byte(c)})
		if strings.Contains(begins, s) {
			continue
		}
		checkError(t, s, api.ErrSign, 0)
		if s != "_" {
			checkError(t, "a"+s, api.ErrSign, 1)
		}
		checkError(t, "1"+s+"2", api.ErrSign, 1)
		checkError(t, "a # "+s+"\n "+s, api.ErrSign, 7)
	}
	for _, s := range []string{"!", "! =", "!<", "!!=", "!a", "A", "Z", "_", "_a", "é", "$x", "&&", ">", ">=", "~", "'a'", "@", ":", "?", "^", "|", "`"} {
		checkError(t, s, api.ErrSign, 0)
	}
	checkError(t, "aB", api.ErrSign, 1)
	checkError(t, "aé", api.ErrSign, 1)
	checkError(t, "letX", api.ErrSign, 3)
	checkError(t, "a==!b", api.ErrSign, 3)
	checkError(t, "<>", api.ErrSign, 1)
}

// P8.1: the limit and the order of errors

func TestScanRefusesGreatTexts(t *testing.T) {
	for _, s := range []string{
		strings.Repeat(" ", api.MaxText+1),
		strings.Repeat("!", api.MaxText+1),
		"07" + strings.Repeat(";", api.MaxText),
		"# " + strings.Repeat("x", api.MaxText),
		strings.Repeat("a", 10*api.MaxText),
		strings.Repeat("é", api.MaxText/2) + "x",
	} {
		checkError(t, s, api.ErrBig, 0)
	}
	checkTokens(t, strings.Repeat(" ", api.MaxText))
	checkTokens(t, strings.Repeat(" ", api.MaxText-1)+"a", name("a", api.MaxText-1))
	if l, err, at := lex.Scan(strings.Repeat(";", api.MaxText)); len(l) != api.MaxText || err != api.OK || at != 0 {
		t.Errorf("Scan of %d semicolons returns %d tokens, %d, %d", api.MaxText, len(l), err, at)
	}
}

func TestScanReturnsTheFirstError(t *testing.T) {
	wrong := []struct {
		s   string
		err api.Errno
	}{
		{"!", api.ErrSign},
		{"\xff", api.ErrSign},
		{"07", api.ErrToken},
		{"9223372036854775808", api.ErrToken},
		{"aaaaaaaaaaaaaaaaa", api.ErrToken},
		{`"\q"`, api.ErrToken},
	}
	for _, a := range wrong {
		for _, b := range wrong {
			checkError(t, "x "+a.s+" "+b.s, a.err, 2)
		}
		checkError(t, a.s+` "`, a.err, 0)
		checkError(t, `x "`+"\n"+a.s, api.ErrToken, 2)
	}
}

// P8.2

func TestQuote(t *testing.T) {
	for _, c := range []struct{ s, want string }{
		{"", `""`},
		{"a", `"a"`},
		{"\n", `"\n"`},
		{`"`, `"\""`},
		{`\`, `"\\"`},
		{`\n`, `"\\n"`},
		{"\\\n\"", `"\\\n\""`},
		{"a\nb\"c\\d", `"a\nb\"c\\d"`},
		{"\n\n", `"\n\n"`},
		{"\x00\t\r\x7f", "\"\x00\t\r\x7f\""},
		{"\xff\n\x80\"\xe2\x82\\\xac", "\"\xff\\n\x80\\\"\xe2\x82\\\\\xac\""},
		{"é€\U0001f600\ufffd\n", "\"é€\U0001f600\ufffd\\n\""},
	} {
		if got := lex.Quote(c.s); got != c.want {
			t.Errorf("Quote(%q) = %q; want %q", c.s, got, c.want)
		}
	}
	for c := range 256 {
		s := string([]byte{byte(c)})
		want := `"` + s + `"`
		switch c {
		case '\n':
			want = `"\n"`
		case '"', '\\':
			want = `"\` + s + `"`
		}
		if got := lex.Quote(s); got != want {
			t.Errorf("Quote(%q) = %q; want %q", s, got, want)
		}
	}
	if got := lex.Quote(strings.Repeat("\n", 100000)); got != `"`+strings.Repeat(`\n`, 100000)+`"` {
		t.Error("Quote of 100000 bytes 10")
	}
}

func TestText(t *testing.T) {
	for _, c := range []struct {
		l    []api.Token
		want string
	}{
		{nil, ""},
		{[]api.Token{}, ""},
		{[]api.Token{{}}, ""},
		{[]api.Token{{}, {}}, " "},
		{[]api.Token{name("a", 5)}, "a"},
		{[]api.Token{key("let", 0), name("x", 0), mark("=", 0), number(5, 0), mark(";", 0)}, "let x = 5 ;"},
		{[]api.Token{text("", 0)}, `""`},
		{[]api.Token{text("a\n\"\\", 0), text("\xff", 9)}, `"a\n\"\\"` + " \"\xff\""},
		{[]api.Token{{Kind: api.TText, Text: "1", N: 1}, {Kind: api.TInt, Text: "7", N: 8}}, `"1" 7`},
		{[]api.Token{{Kind: -1, Text: "\n"}, {Kind: 6, Text: `"`, N: -1, At: -1}, {Kind: api.TName, Text: `\`}}, "\n \" \\"},
	} {
		before := slices.Clone(c.l)
		if got := lex.Text(c.l); got != c.want {
			t.Errorf("Text(%v) = %q; want %q", c.l, got, c.want)
		}
		if !slices.Equal(c.l, before) {
			t.Errorf("Text changes %v to %v", before, c.l)
		}
	}
}

func TestKeyAndName(t *testing.T) {
	for _, s := range keywords {
		if !lex.Key(s) || lex.Name(s) {
			t.Errorf("%q is a keyword and no name", s)
		}
	}
	for _, s := range []string{
		"a", "z", "q", "x1", "x_", "x_y_z", "lets", "le", "le_t", "modulemodule", "nil0", "o", "ors", "continue_",
		strings.Repeat("a", api.MaxName), "a" + strings.Repeat("_", api.MaxName-1),
	} {
		if lex.Key(s) || !lex.Name(s) {
			t.Errorf("%q is a name and no keyword", s)
		}
	}
	for _, s := range []string{
		"", " ", "_", "_a", "0", "0a", "9", "A", "aA", "Let", "LET", " let", "let ", "let\n", "a b", " a", "a ", "a\n", "a-b", "a.b", "aé", "é", "a\x00", "a\xff", "\xff", "\x00",
		"á", "\xe1", "a\xe1", "(", "==", `"a"`, strings.Repeat("a", api.MaxName+1), "a" + strings.Repeat("0", api.MaxName), strings.Repeat("é", 8), strings.Repeat("a", 100000),
	} {
		if lex.Key(s) || lex.Name(s) {
			t.Errorf("%q is neither a name nor a keyword", s)
		}
	}
	for c := range 256 {
		s := string([]byte{byte(c)})
		letter := 'a' <= c && c <= 'z'
		other := '0' <= c && c <= '9' || c == '_'
		if lex.Name(s) != letter || lex.Name("a"+s) != (letter || other) || lex.Name("a"+s+"a") != (letter || other) {
			t.Errorf("Name with the byte %q", s)
		}
	}
}

// P8.3

// withoutOffsets returns the tokens with At 0.
func withoutOffsets(l []api.Token) []api.Token {
	l = slices.Clone(l)
	for i := range l {
		l[i].At = 0
	}
	return l
}

func TestTextOfTokensHasTheSameTokens(t *testing.T) {
	r := rand.New(rand.NewSource(8))
	for range 20000 {
		l, err, _ := lex.Scan(randomText(r))
		if err != api.OK {
			continue
		}
		s := lex.Text(l)
		again, err, at := lex.Scan(s)
		if !slices.Equal(withoutOffsets(again), withoutOffsets(l)) || err != api.OK || at != 0 {
			t.Fatalf("Scan(%q) = %v, %d, %d; want the tokens %v", s, again, err, at, l)
		}
		if again := lex.Text(again); again != s {
			t.Fatalf("Text of the tokens of %q = %q", s, again)
		}
	}
}

func TestQuoteIsOneToken(t *testing.T) {
	r := rand.New(rand.NewSource(8))
	for range 20000 {
		s := make([]byte, r.Intn(20))
		for i := range s {
			s[i] = byte(r.Intn(256))
			if r.Intn(2) == 0 {
				s[i] = "\n\"\\na#\xe2\x82\xac"[r.Intn(9)]
			}
		}
		checkTokens(t, lex.Quote(string(s)), text(string(s), 0))
	}
	checkTokens(t, lex.Quote(strings.Repeat("\n", api.MaxText/2-1)), text(strings.Repeat("\n", api.MaxText/2-1), 0))
	checkError(t, lex.Quote(strings.Repeat("\n", api.MaxText/2)), api.ErrBig, 0)
	checkError(t, lex.Quote(strings.Repeat("a", api.MaxText-1)), api.ErrBig, 0)
}

// Every text against another scanner

var (
	blankForm = regexp.MustCompile(`^([ \t\n\r]|#[^\n]*)+`)
	wordForm  = regexp.MustCompile(`^[a-z][a-z0-9_]*`)
	intForm   = regexp.MustCompile(`^[0-9]+`)
	textForm  = regexp.MustCompile(`^"([^"\\\n]|\\[n"\\])*"`)
	markForm  = regexp.MustCompile(`^(==|!=|<=|\.\.|[(){}\[\],;./=<+\-*%])`)
	goodInt   = regexp.MustCompile(`^(0|[1-9][0-9]{0,18})$`)
)

// scan is lex.Scan by regular expressions.
func scan(s string) ([]api.Token, api.Errno, int) {
	var l []api.Token
	at := len(blankForm.FindString(s))
	for at < len(s) {
		rest := s[at:]
		t := api.Token{At: at}
		var size int
		if word := wordForm.FindString(rest); word != "" {
			t.Kind, t.Text, size = api.TName, word, len(word)
			if slices.Contains(keywords, word) {
				t.Kind = api.TKey
			} else if size > api.MaxName {
				return nil, api.ErrToken, at
			}
		} else if digits := intForm.FindString(rest); digits != "" {
			n, _ := strconv.ParseUint(digits, 10, 64)
			if !goodInt.MatchString(digits) || n > math.MaxInt64 {
				return nil, api.ErrToken, at
			}
			t.Kind, t.Text, t.N, size = api.TInt, digits, int64(n), len(digits)
		} else if quoted := textForm.FindString(rest); quoted != "" {
			content := strings.NewReplacer(`\n`, "\n", `\"`, `"`, `\\`, `\`).Replace(quoted[1 : len(quoted)-1])
			t.Kind, t.Text, size = api.TText, content, len(quoted)
		} else if m := markForm.FindString(rest); m != "" {
			t.Kind, t.Text, size = api.TMark, m, len(m)
		} else if rest[0] == '"' {
			return nil, api.ErrToken, at
		} else {
			return nil, api.ErrSign, at
		}
		l = append(l, t)
		at += size
		at += len(blankForm.FindString(s[at:]))
	}
	return l, api.OK, 0
}

// randomText returns a text of pieces that often is without an error.
func randomText(r *rand.Rand) string {
	pieces := slices.Concat(keywords, marks, blanks, []string{
		"a", "b1", "x_y", "_", "0", "7", "10", "9223372036854775807", "922337203685477580", "aaaaaaaa", "aaaaaaaaaaaaaaaa",
		`""`, `"a b"`, `"\n\"\\"`, "\"\xff#\"", "\"\t\"", " ", " ", " ", " ",
	})
	var s strings.Builder
	for range r.Intn(12) {
		s.WriteString(pieces[r.Intn(len(pieces))])
		if r.Intn(2) == 0 {
			s.WriteByte(' ')
		}
		if r.Intn(60) == 0 {
			s.WriteByte(byte(r.Intn(256)))
		}
		if r.Intn(60) == 0 {
			s.WriteByte("\"\\\n!#"[r.Intn(5)])
		}
	}
	return s.String()
}

func TestScanAgainstRegularExpressions(t *testing.T) {
	r := rand.New(rand.NewSource(1))
	good := 0
	for range 50000 {
		s := randomText(r)
		want, wantErr, wantAt := scan(s)
		got, err, at := lex.Scan(s)
		if !slices.Equal(got, want) || err != wantErr || at != wantAt {
			t.Fatalf("Scan(%q) = %v, %d, %d; want %v, %d, %d", s, got, err, at, want, wantErr, wantAt)
		}
		if err == api.OK {
			good++
		}
	}
	if good < 10000 {
		t.Errorf("only %d texts have no error", good)
	}
}

func TestScanOfShortTextsAgainstRegularExpressions(t *testing.T) {
	const signs = "a0\"\\n\n =!.#_\xe2"
	var visit func(s string)
	visit = func(s string) {
		want, wantErr, wantAt := scan(s)
		got, err, at := lex.Scan(s)
		if !slices.Equal(got, want) || err != wantErr || at != wantAt {
			t.Fatalf("Scan(%q) = %v, %d, %d; want %v, %d, %d", s, got, err, at, want, wantErr, wantAt)
		}
		if len(s) == 4 {
			return
		}
		for i := range len(signs) {
			visit(s + signs[i:i+1])
		}
	}
	visit("")
}

// R4 and R5

func TestResultsAreNewMemory(t *testing.T) {
	const s = `let a = "x\ny" .. 5;`
	first, _, _ := lex.Scan(s)
	want := slices.Clone(first)
	second, _, _ := lex.Scan(s)
	for i := range first[:cap(first)] {
		first[:cap(first)][i] = api.Token{Kind: -1, Text: "?", N: -1, At: -1}
	}
	third, _, _ := lex.Scan(s)
	if !slices.Equal(second, want) || !slices.Equal(third, want) {
		t.Errorf("%v and %v; want %v", second, third, want)
	}
}
