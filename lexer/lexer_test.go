package lexer_test

import (
	"math/rand"
	"regexp"
	"slices"
	"strconv"
	"strings"
	"sync"
	"testing"

	"modcert/api"
	"modcert/lexer"
)

const (
	keywordList = "and any as bool deprecated else export false fn fold from if import in int length let list match module none not or text then true type use"
	symbolList  = "=== :: >: <: => == ++ ( ) [ ] { } < > , : = . + - * | ? /"
)

// token returns a token without its offset.
func token(kind int, text string) api.Token {
	return api.Token{Kind: kind, Text: text}
}

// lexed returns the tokens of a source without an error.
func lexed(t *testing.T, source string) []api.Token {
	t.Helper()
	list, offset, err := lexer.Lex(source)
	if err != api.OK || offset != 0 {
		t.Fatalf("%.200q has the error %d at %d", source, err, offset)
	}
	if len(list) == 0 || list[len(list)-1] != (api.Token{Kind: api.TokenEnd, Offset: len(source)}) {
		t.Fatalf("%.200q does not end with TokenEnd: %v", source, list)
	}
	return list
}

// bare returns tokens without their offsets, and without TokenEnd.
func bare(list []api.Token) []api.Token {
	result := slices.Clone(list[:len(list)-1])
	for i := range result {
		result[i].Offset = 0
	}
	return result
}

// wrong checks that a source has an error, and no tokens.
func wrong(t *testing.T, source string, offset int, err api.Errno) {
	t.Helper()
	list, at, e := lexer.Lex(source)
	if len(list) != 0 || at != offset || e != err {
		t.Errorf("%.200q has %d tokens and the error %d at %d, not %d at %d", source, len(list), e, at, err, offset)
	}
}

// single checks that a source is one token.
func single(t *testing.T, source string, want api.Token) {
	t.Helper()
	if list := bare(lexed(t, source)); len(list) != 1 || list[0] != want {
		t.Errorf("%.200q is %v, not %v", source, list, want)
	}
}

// P3.1: the example of the chapter, with all offsets.
func TestExample(t *testing.T) {
	want := []api.Token{
		{Kind: api.TokenKeyword, Text: "fn", Offset: 0}, {Kind: api.TokenSymbol, Text: "(", Offset: 2}, {Kind: api.TokenName, Text: "a", Offset: 3},
		{Kind: api.TokenSymbol, Text: "?", Offset: 4}, {Kind: api.TokenSymbol, Text: ":", Offset: 5}, {Kind: api.TokenKeyword, Text: "int", Offset: 7},
		{Kind: api.TokenSymbol, Text: ")", Offset: 10}, {Kind: api.TokenSymbol, Text: "=>", Offset: 12}, {Kind: api.TokenName, Text: "a", Offset: 15},
		{Kind: api.TokenEnd, Text: "", Offset: 16},
	}
	if got := lexed(t, "fn(a?: int) => a"); !slices.Equal(got, want) {
		t.Errorf("the tokens are %v", got)
	}
}

// P3.1: all kinds of tokens in one source, with blanks and comments between them.
func TestOffsets(t *testing.T) {
	source := " \tx_1// y \"\n\rT9 007_"
	wrong(t, source, 16, api.ErrSyntax)
	want := []api.Token{{Kind: api.TokenName, Text: "x_1", Offset: 2}, {Kind: api.TokenType, Text: "T9", Offset: 13}, {Kind: api.TokenText, Text: "\n\xff", Offset: 16}, {Kind: api.TokenNumber, Text: "70", Offset: 24}, {Kind: api.TokenKeyword, Text: "let", Offset: 27}, {Kind: api.TokenEnd, Offset: 33}}
	if got := lexed(t, source[:16]+`"\n\xff"70 let //`); !slices.Equal(got, want) {
		t.Errorf("the tokens are %v", got)
	}
	for _, source := range []string{"", " ", "\t\n\r ", "//", "// a", "//\n", "//a\n//b\r\n ", "///", "//\x00\xff\"\r\x0b"} {
		if got := lexed(t, source); len(got) != 1 {
			t.Errorf("%q has the tokens %v", source, got)
		}
	}
}

// P3.1: keywords, and words that only contain them.
func TestKeywords(t *testing.T) {
	for _, word := range strings.Fields(keywordList) {
		single(t, word, token(api.TokenKeyword, word))
		for _, longer := range []string{word + "x", word + "0", word + "_", word + "X", "x" + word} {
			single(t, longer, token(api.TokenName, longer))
		}
		capital := strings.ToUpper(word[:1]) + word[1:]
		single(t, capital, token(api.TokenType, capital))
		single(t, word[:len(word)-1]+"Z", token(api.TokenName, word[:len(word)-1]+"Z"))
	}
}

// P3.1: words of all lengths up to MaxName and beyond it, and of all bytes.
func TestWords(t *testing.T) {
	for size := 1; size <= 2*api.MaxName; size++ {
		name, capital := strings.Repeat("q", size), "Q"+strings.Repeat("_", size-1)
		if size > api.MaxName {
			wrong(t, name, 0, api.ErrName)
			wrong(t, "a\n"+capital+" \"", 2, api.ErrName)
			continue
		}
		single(t, name, token(api.TokenName, name))
		single(t, capital, token(api.TokenType, capital))
	}
	for c := range 128 {
		s, kind := string(rune(c)), 0
		switch {
		case 'a' <= c && c <= 'z':
			kind = api.TokenName
		case 'A' <= c && c <= 'Z':
			kind = api.TokenType
		case c != '_' && (c < '0' || c > '9'):
			continue
		}
		single(t, "x"+s, token(api.TokenName, "x"+s))
		single(t, "X"+s+"y", token(api.TokenType, "X"+s+"y"))
		if kind != 0 {
			single(t, s, token(kind, s))
		}
	}
	wrong(t, "_", 0, api.ErrSyntax)
	wrong(t, "a _b", 2, api.ErrSyntax)
	wrong(t, "a\xc3\xa9", 1, api.ErrSyntax)
}

// P3.1: numbers have at most 19 digits, no leading zeros, and nothing of a word behind them.
func TestNumbers(t *testing.T) {
	for _, s := range []string{"0", "1", "9", "10", "100", "1234567890", "9223372036854775807", "9223372036854775808", "9999999999999999999", "1000000000000000000"} {
		single(t, s, token(api.TokenNumber, s))
	}
	for _, s := range []string{"00", "01", "007", "0123456789", "10000000000000000000", "12345678901234567890", strings.Repeat("1", 100), strings.Repeat("0", 19), "1a", "1Z", "1_", "0x1", "0_", "0a", "9z", "9A", "1234567890123456789e", "10000000000000000000a"} {
		wrong(t, s, 0, api.ErrSyntax)
		wrong(t, "a + "+s, 4, api.ErrSyntax)
	}
	for _, s := range []string{"1.2", "0 0", "1-2", `1"a"`, "1//2", "1(", "1\n"} {
		if got := bare(lexed(t, s)); got[0].Kind != api.TokenNumber || got[0].Text != s[:1] {
			t.Errorf("%q is %v", s, got)
		}
	}
}

// P3.1: every byte as a character of a string.
func TestCharacters(t *testing.T) {
	for c := range 256 {
		s := string([]byte{byte(c)})
		switch source := `"` + s + `"`; {
		case s == `"`:
			wrong(t, source, 2, api.ErrSyntax)
		case c < 32 || s == `\`:
			wrong(t, source, 0, api.ErrSyntax)
			wrong(t, `a "b`+s+`"`, 2, api.ErrSyntax)
		default:
			single(t, source, token(api.TokenText, s))
		}
		escape := `"` + `\` + s + `"`
		switch s {
		case `"`, `\`:
			single(t, escape, token(api.TokenText, s))
		case "n":
			single(t, escape, token(api.TokenText, "\n"))
		default:
			wrong(t, escape, 0, api.ErrSyntax)
		}
		digits := strconv.FormatInt(int64(256+c), 16)[1:]
		single(t, `"\x`+digits+`"`, token(api.TokenText, s))
		single(t, `"a\x`+digits+digits+`"`, token(api.TokenText, "a"+s+digits))
		if upper := strings.ToUpper(digits); upper != digits {
			wrong(t, `"\x`+upper+`"`, 0, api.ErrSyntax)
		}
		if !strings.Contains("0123456789abcdef", s) {
			wrong(t, `"\x`+s+`0"`, 0, api.ErrSyntax)
			wrong(t, `"\x0`+s+`"`, 0, api.ErrSyntax)
		}
	}
}

// P3.1: strings, and those that do not end.
func TestTexts(t *testing.T) {
	for source, want := range map[string]string{
		`""`: "", `"a b"`: "a b", `"//"`: "//", `"let 01 #"`: "let 01 #", `"\\n"`: `\n`, `"\"\\\n\x00\x41"`: "\"\\\n\x00A", "\"\xff\x80\x7f\"": "\xff\x80\x7f", "\"\u00e9\"": "\u00e9",
		`"` + strings.Repeat("x", 1000) + `"`: strings.Repeat("x", 1000),
	} {
		single(t, source, token(api.TokenText, want))
		single(t, " //\"\n"+source+"//\"", token(api.TokenText, want))
	}
	for _, s := range []string{`"`, `"a`, `"\`, `"\"`, `"a\"`, `"\\\"`, `"\x`, `"\x0`, `"\x00`, `"\x"`, `"\x0"`, `"\x"00"`, `"\n`, "\"a\nb\"", "\"a\tb\"", "\"\r\"", `"\X00"`, `"\N"`, `"\u0041"`, `"\'"`} {
		wrong(t, s, 0, api.ErrSyntax)
		wrong(t, "x\n "+s, 3, api.ErrSyntax)
	}
	if got := bare(lexed(t, `"a""b"x"c"`)); !slices.Equal(got, []api.Token{token(api.TokenText, "a"), token(api.TokenText, "b"), token(api.TokenName, "x"), token(api.TokenText, "c")}) {
		t.Errorf("neighbours are %v", got)
	}
}

// P3.1: symbols, each alone, and the longest one where two stand together.
func TestSymbols(t *testing.T) {
	for _, symbol := range strings.Fields(symbolList) {
		single(t, symbol, token(api.TokenSymbol, symbol))
	}
	for source, want := range map[string]string{
		"====": "=== =", "=====": "=== ==", "=== =": "=== =", "=>=": "=> =", "==>": "== >", "===>": "=== >", ":::": ":: :", "::::": ":: ::", "<::": "<: :", ">::": ">: :", ">:=": ">: =",
		"<>:": "< >:", "<=": "< =", "+++": "++ +", "++++": "++ ++", "=:": "= :", ">=": "> =", "=>:": "=> :", "->": "- >", "<<:": "< <:", "/ /": "/ /", "/*/": "/ * /", "[|]": "[ | ]", "{}": "{ }", "?:": "? :", "--": "- -",
	} {
		var texts []string
		for _, token := range bare(lexed(t, source)) {
			if token.Kind != api.TokenSymbol {
				t.Errorf("%q has the token %v", source, token)
			}
			texts = append(texts, token.Text)
		}
		if got := strings.Join(texts, " "); got != want {
			t.Errorf("%q is %q, not %q", source, got, want)
		}
	}
	if got := bare(lexed(t, "a//b\n/c///d")); !slices.Equal(got, []api.Token{token(api.TokenName, "a"), token(api.TokenSymbol, "/"), token(api.TokenName, "c")}) {
		t.Errorf("slashes are %v", got)
	}
}

// P3.1: a byte that begins no token is an ErrSyntax, wherever it stands.
func TestOtherBytes(t *testing.T) {
	for c := range 256 {
		s := string([]byte{byte(c)})
		if strings.ContainsAny(s, " \t\n\r\"()[]{}<>,:=.+-*|?/") || '0' <= c && c <= '9' || 'a' <= c && c <= 'z' || 'A' <= c && c <= 'Z' {
			continue
		}
		wrong(t, s, 0, api.ErrSyntax)
		wrong(t, "a "+s+" b", 2, api.ErrSyntax)
		wrong(t, "12 "+s, 3, api.ErrSyntax)
		wrong(t, `"" `+s, 3, api.ErrSyntax)
		lexed(t, "// "+s+"\n")
	}
}

// P3.1: the error is that of the first wrong token.
func TestFirstError(t *testing.T) {
	long := strings.Repeat("x", api.MaxName+1)
	wrong(t, "# "+long, 0, api.ErrSyntax)
	wrong(t, long+" #", 0, api.ErrName)
	wrong(t, "a "+long+" \"", 2, api.ErrName)
	wrong(t, "\""+long, 0, api.ErrSyntax)
	wrong(t, "1"+long, 0, api.ErrSyntax)
	wrong(t, "let a = \"b\nlet c = 01", 8, api.ErrSyntax)
	wrong(t, "a\n\n  b // #\n c 0_ $", 15, api.ErrSyntax)
}

// P3.1: the limit of a source, which is looked for before everything else.
func TestLimit(t *testing.T) {
	for _, piece := range []string{" ", "a ", "(", "// ", "1 ", "#"} {
		wrong(t, strings.Repeat(piece, api.MaxSource+1)[:api.MaxSource+1], 0, api.ErrTooLarge)
	}
	wrong(t, "a"+strings.Repeat(" ", api.MaxSource-1)+"\xff", 0, api.ErrTooLarge)
	if got := lexed(t, strings.Repeat("(", api.MaxSource)); len(got) != api.MaxSource+1 {
		t.Errorf("the greatest source has %d tokens", len(got))
	}
	if got := lexed(t, strings.Repeat("/", api.MaxSource)); len(got) != 1 {
		t.Errorf("the greatest comment has %d tokens", len(got))
	}
	single(t, `"`+strings.Repeat("x", api.MaxSource-2)+`"`, token(api.TokenText, strings.Repeat("x", api.MaxSource-2)))
	wrong(t, strings.Repeat(" ", api.MaxSource-1)+"#", api.MaxSource-1, api.ErrSyntax)
}

// reference divides a source with regular expressions.
func reference(source string) ([]api.Token, int, api.Errno) {
	var list []api.Token
	for rest := source; ; {
		rest = rest[len(blankForm.FindString(rest)):]
		offset := len(source) - len(rest)
		if rest == "" {
			return append(list, api.Token{Kind: api.TokenEnd, Offset: offset}), 0, api.OK
		}
		found, kind, text := wordForm.FindString(rest), 0, ""
		switch {
		case found != "" && slices.Contains(strings.Fields(keywordList), found):
			kind, text = api.TokenKeyword, found
		case found != "" && len(found) > api.MaxName:
			return nil, offset, api.ErrName
		case found != "":
			kind, text = api.TokenName, found
			if found < "a" {
				kind = api.TokenType
			}
		case textForm.MatchString(rest):
			found, kind = textForm.FindString(rest), api.TokenText
			text, _ = strconv.Unquote(found)
		case symbolForm.MatchString(rest):
			found, kind = symbolForm.FindString(rest), api.TokenSymbol
			text = found
		default:
			found, kind = numberForm.FindString(rest), api.TokenNumber
			text = found
			if found == "" || found[0] == '0' && len(found) > 1 || len(found) > 19 || wordForm.FindString("a"+rest[len(found):]) != "a" {
				return nil, offset, api.ErrSyntax
			}
		}
		list = append(list, api.Token{Kind: kind, Text: text, Offset: offset})
		rest = rest[len(found):]
	}
}

var (
	blankForm  = regexp.MustCompile(`^([ \t\n\r]|//[^\n]*)*`)
	wordForm   = regexp.MustCompile(`^[A-Za-z][A-Za-z0-9_]*`)
	numberForm = regexp.MustCompile(`^[0-9]+`)
	textForm   = regexp.MustCompile(`^"([^\x00-\x1f"\\]|\\["\\n]|\\x[0-9a-f]{2})*"`)
	symbolForm = regexp.MustCompile(`^(===|::|>:|<:|=>|==|\+\+|[()\[\]{}<>,:=.+\-*|?/])`)
)

// random returns a source of pieces of tokens.
func random(r *rand.Rand, pieces []string) string {
	var b strings.Builder
	for range r.Intn(12) {
		b.WriteString(pieces[r.Intn(len(pieces))])
	}
	return b.String()
}

// P3.1: sources of all sorts of pieces have the tokens that regular expressions find.
func TestAgainstRegularExpressions(t *testing.T) {
	pieces := slices.Concat(strings.Fields(keywordList), strings.Fields(symbolList), strings.Fields(symbolList),
		strings.Fields(`a b A _ x_1 T9 0 1 9 01 42 /// // # " " " "" "a" "\n" "\x0f" \ \n \x \x0 \" \\ \x7f ~ ! @`),
		[]string{" ", " ", " ", "\n", "\n", "\t", "\r", "\x0b", "\x00", "\x7f", "abcdefghijklmnop", "1234567890"})
	r := rand.New(rand.NewSource(1))
	errors := 0
	for range 200000 {
		source := random(r, pieces)
		got, offset, err := lexer.Lex(source)
		list, at, e := reference(source)
		if !slices.Equal(got, list) || offset != at || err != e {
			t.Fatalf("%q is %v, %d, %d, not %v, %d, %d", source, got, offset, err, list, at, e)
		}
		if err != api.OK {
			errors++
		}
	}
	if errors < 20000 || errors > 180000 {
		t.Errorf("%d of the sources are wrong", errors)
	}
}

// P3.2: the literal of every byte, and of strings.
func TestQuote(t *testing.T) {
	for c := range 256 {
		s := string([]byte{byte(c)})
		want := `"` + s + `"`
		switch {
		case c == '\n':
			want = `"\n"`
		case c == '"' || c == '\\':
			want = `"\` + s + `"`
		case c < 32 || c > 126:
			want = `"\x` + strconv.FormatInt(int64(256+c), 16)[1:] + `"`
		}
		if got := lexer.Quote(s); got != want {
			t.Errorf("the literal of %q is %s, not %s", s, got, want)
		}
	}
	for s, want := range map[string]string{"": `""`, "a b": `"a b"`, "\\n\n": `"\\n\n"`, `""`: `"\"\""`, "\u00e9\t": `"\xc3\xa9\x09"`, "\x00\xff0": `"\x00\xff0"`, "//'~ ": `"//'~ "`} {
		if got := lexer.Quote(s); got != want {
			t.Errorf("the literal of %q is %s, not %s", s, got, want)
		}
	}
}

// P3.4: the literal of a string is a single token with this string, if it is not too large.
func TestLiteralsAreTokens(t *testing.T) {
	r := rand.New(rand.NewSource(2))
	for range 3000 {
		b := make([]byte, r.Intn(40))
		r.Read(b)
		single(t, lexer.Quote(string(b)), token(api.TokenText, string(b)))
		single(t, " "+lexer.Quote(string(b))+"//", token(api.TokenText, string(b)))
	}
	size := (api.MaxSource - 2) / 4
	single(t, lexer.Quote(strings.Repeat("\x00", size)), token(api.TokenText, strings.Repeat("\x00", size)))
	wrong(t, lexer.Quote(strings.Repeat("\x00", size+1)), 0, api.ErrTooLarge)
	if got := lexer.Quote(strings.Repeat("\x00", 1<<18)); len(got) != 1<<20+2 {
		t.Errorf("a long literal has %d bytes", len(got))
	}
}

// P3.2: names and names of types, with all lengths and all keywords.
func TestNames(t *testing.T) {
	tail := strings.Repeat("x", api.MaxName-1)
	for _, s := range []string{"a", "z", "m", "aB", "a_", "a0", "a9Z_", "lets", "i", "inT", "v1", "a" + tail} {
		if !lexer.IsName(s) || lexer.IsType(s) {
			t.Errorf("%q is no name, or a name of a type", s)
		}
	}
	for _, s := range []string{"A", "Z", "M", "Ab", "A_", "A0", "Z9z_", "Int", "LET", "A" + tail} {
		if lexer.IsName(s) || !lexer.IsType(s) {
			t.Errorf("%q is a name, or no name of a type", s)
		}
	}
	others := []string{"", "_", "_a", "0", "0a", "9A", "a ", " a", "A ", " A", "a.b", "a-b", "A-b", "a/v1", "a\n", "A\x00", "a\xff", "\u00e9", "a\u00e9", "A\u00c9", "a#", "#0", "#A", "a" + tail + "x", "A" + tail + "x", "a@", "a[", "a`", "a{", "a:", "@", "[", "`", "{"}
	for _, s := range append(others, strings.Fields(keywordList)...) {
		if lexer.IsName(s) || lexer.IsType(s) {
			t.Errorf("%q is a name, or a name of a type", s)
		}
	}
}

// P3.2: paths and their major versions.
func TestPaths(t *testing.T) {
	segment := strings.Repeat("x", api.MaxName)
	for path, want := range map[string]int{
		"geo/shapes/v12": 12, "a/v0": 0, "a/v1": 1, "a/v9": 9, "a/v10": 10, "a/v99": 99, "a/v100": 100, "a/v999": 999, "v1/v2": 2, "v/v1": 1, "a0/b1c/v7": 7, "z9/v3": 3, "lets/v1": 1,
		"a/b/c/d/e/f/g/h/v8": 8, segment + "/v1": 1, segment + "/" + segment[:28] + "/v1": 1, strings.Repeat("a/", 30) + "v999": 999,
	} {
		if major, err := lexer.Major(path); major != want || err != api.OK || !lexer.IsPath(path) {
			t.Errorf("the major version of %q is %d, %d", path, major, err)
		}
	}
	for _, path := range []string{
		"", "/", "v1", "/v1", "a", "a/", "a/v", "a/b", "a/v1/", "a//v1", "/a/v1", "a/v1/b", "a/v1/1", "a/1", "a/w1", "a/V1", "A/v1", "aB/v1", "a_b/v1", "_/v1", "0a/v1", "1/v1", "a/b-c/v1", "a/.b/v1", "a b/v1", "a/v1 ", " a/v1", "a/v1\n", "a/v\x00",
		"a/v00", "a/v01", "a/v007", "a/v0999", "a/v1000", "a/v9990", "a/v99999999999999999999", "a/v1x", "a/v-1", "a/v+1", "a/vx", "a/v1_", "a/v 1", "a/v1.0", "\u00e9/v1", "a\xff/v1", "a/b\\v1", "a/v1/v", "a/vv1", "a:b/v1",
		segment + "x/v1", "a/" + segment + "x/v1", segment + "/" + segment[:29] + "/v1", segment + "/" + segment + "/v1", strings.Repeat("a/", 31) + "v999", strings.Repeat("a/", 1000) + "v1",
	} {
		if major, err := lexer.Major(path); major != 0 || err != api.ErrName || lexer.IsPath(path) {
			t.Errorf("%q is a path with the major version %d, %d", path, major, err)
		}
	}
	for _, word := range strings.Fields(keywordList) {
		for _, path := range []string{word + "/v1", "a/" + word + "/v1", "a/" + word} {
			if lexer.IsPath(path) {
				t.Errorf("%q is a path", path)
			}
		}
		if !lexer.IsPath(word + "0/v1") {
			t.Errorf("%q is no path", word+"0/v1")
		}
	}
}

// P3.2: paths of all major versions, and of random pieces.
func TestPathsAgainstRegularExpression(t *testing.T) {
	for n := range 2000 {
		major, err := lexer.Major("a/v" + strconv.Itoa(n))
		if n <= api.MaxVersion && (major != n || err != api.OK) || n > api.MaxVersion && (major != 0 || err != api.ErrName) {
			t.Errorf("the major version %d is %d, %d", n, major, err)
		}
	}
	form := regexp.MustCompile(`^([a-z][a-z0-9]{0,31}/)+v(0|[1-9][0-9]{0,2})$`)
	pieces := strings.Split("a b v v1 v2 v10 v0 v01 0 1 x9 / / / / / / int type A _ abcdefghijklmno", " ")
	r := rand.New(rand.NewSource(3))
	paths := 0
	for range 200000 {
		s := random(r, pieces)
		want := len(s) <= api.MaxPath && form.MatchString(s) && !slices.ContainsFunc(strings.Split(s, "/"), func(segment string) bool {
			return slices.Contains(strings.Fields(keywordList), segment)
		})
		if lexer.IsPath(s) != want {
			t.Fatalf("whether %q is a path is not %v", s, want)
		}
		if want {
			paths++
		}
	}
	if paths < 1000 {
		t.Errorf("only %d of the strings are paths", paths)
	}
}

// P3.3: lines and columns of all offsets, also of those outside of the source.
func TestPosition(t *testing.T) {
	for _, source := range []string{"", "a", "\n", "\n\n", "ab\ncd", "ab\ncd\n", "\na\n\nbc", "a\r\nb\tc\xff\u00e9\nd"} {
		line, column := 1, 1
		for offset := range len(source) + 1 {
			if l, c := lexer.Position(source, offset); l != line || c != column {
				t.Errorf("the offset %d in %q is %d:%d, not %d:%d", offset, source, l, c, line, column)
			}
			if offset < len(source) && source[offset] == '\n' {
				line, column = line+1, 1
			} else if offset < len(source) {
				column++
			}
		}
		for _, offset := range []int{-1, -2, -1 << 63} {
			if l, c := lexer.Position(source, offset); l != 1 || c != 1 {
				t.Errorf("the offset %d in %q is %d:%d", offset, source, l, c)
			}
		}
		for _, offset := range []int{len(source) + 1, len(source) + 2, 1<<63 - 1} {
			if l, c := lexer.Position(source, offset); l != line || c != column {
				t.Errorf("the offset %d in %q is %d:%d", offset, source, l, c)
			}
		}
	}
	if l, c := lexer.Position(strings.Repeat("ab\n", 1000), 2999); l != 1000 || c != 3 {
		t.Errorf("the last byte is at %d:%d", l, c)
	}
}

// P3.4: further blanks and comments between tokens change nothing but offsets.
func TestSeparators(t *testing.T) {
	pieces := slices.Concat(strings.Fields(keywordList+" "+symbolList), strings.Fields(`a b A x_1 T9 0 1 9 42 "" "a" "//" "\n" "\x0f\""`))
	between := []string{" ", "\n", "\t", "\r", "  ", "//\n", "// a \" #\n", " //b//\r\n\n", "//\n//\n "}
	r := rand.New(rand.NewSource(4))
	for range 2000 {
		var words []string
		for range r.Intn(12) {
			words = append(words, pieces[r.Intn(len(pieces))])
		}
		plain := lexed(t, strings.Join(words, " "))
		source := random(r, between)
		offsets := []int{}
		for _, word := range words {
			offsets = append(offsets, len(source))
			source += word
			if word == "/" {
				source += " " // it would begin a comment with another one
			}
			source += between[r.Intn(len(between))] + random(r, between)
		}
		spread := lexed(t, source)
		if !slices.Equal(bare(plain), bare(spread)) || len(spread) != len(words)+1 {
			t.Fatalf("%q is %v, not %v", source, spread, plain)
		}
		for i, offset := range offsets {
			if spread[i].Offset != offset {
				t.Fatalf("the token %d of %q is at %d, not %d", i, source, spread[i].Offset, offset)
			}
		}
	}
}

// P3.4: what stands in front of the offset of an error has no error; P1: all bytes can be divided.
func TestInFrontOfErrors(t *testing.T) {
	pieces := strings.Split(`a |Bc |let|0|1|"|"x"|\n|\x41|//|#|=|:|+|`+"\n|\x00|\xff|_|"+strings.Repeat("y", 20), "|")
	r := rand.New(rand.NewSource(5))
	for range 50000 {
		source := random(r, pieces)
		list, offset, err := lexer.Lex(source)
		if err == api.OK {
			continue
		}
		if len(list) != 0 || offset < 0 || offset >= len(source) || err != api.ErrSyntax && err != api.ErrName {
			t.Fatalf("%q has the error %d at %d with %d tokens", source, err, offset, len(list))
		}
		lexed(t, source[:offset])
	}
	for range 50000 {
		b := make([]byte, r.Intn(30))
		r.Read(b)
		lexer.Lex(string(b))
		lexer.Major(string(b))
		lexer.Position(string(b), r.Intn(40)-5)
	}
}

// P2, P3: goroutines get the same results, and a change of a result changes no other one.
func TestSharedUse(t *testing.T) {
	const source = "module a/v1 let x: text = \"a\\n\" // end\n type T <: any = {b: int}"
	want := lexed(t, source)
	var all sync.WaitGroup
	for range 8 {
		all.Add(1)
		go func() {
			defer all.Done()
			for range 50 {
				got, offset, err := lexer.Lex(source)
				major, _ := lexer.Major("a/v7")
				if !slices.Equal(got, want) || offset != 0 || err != api.OK || major != 7 || lexer.Quote("\n") != `"\n"` || !lexer.IsName("a") || !lexer.IsType("A") || !lexer.IsPath("a/v1") {
					t.Error("another result in a goroutine")
				}
				clear(got)
			}
		}()
	}
	all.Wait()
	if got := lexed(t, source); !slices.Equal(got, want) {
		t.Errorf("the tokens have become %v", got)
	}
}
