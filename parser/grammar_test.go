package parser_test

import (
	"regexp"
	"slices"
	"strings"
	"testing"

	"modcert/api"
	"modcert/lexer"
	"modcert/parser"
	"modcert/sample"
)

// rules is the grammar of the chapter.
const rules = `
type     = "int" | "bool" | "text" | "any" | "none" | "list" "[" type "]"
         | "{" [ field { "," field } ] "}" | "<" [ field { "|" field } ] ">"
         | "fn" "(" [ param { "," param } ] ")" type
         | [ Name "::" ] TypeName [ args ]
field    = Name ":" type
param    = Name [ "?" ] ":" type
args     = "[" type { "," type } "]"

expr     = "let" Name "=" expr "in" expr
         | "if" "[" type "]" expr "then" expr "else" expr
         | "match" "[" type "]" expr "{" [ arm { "," arm } ] "}"
         | "fold" "[" type "]" Name "," Name "in" expr "from" expr "=>" expr
         | "fn" "(" [ formal { "," formal } ] ")" "=>" expr
         | or
arm      = Name Name "=>" expr
formal   = Name ":" type [ "=" expr ]
or       = and { "or" and }
and      = not { "and" not }
not      = "not" not | cmp
cmp      = add [ ( "==" | "===" | "<" ) add ]
add      = mul { ( "+" | "-" | "++" ) mul }
mul      = unary { "*" unary }
unary    = "length" unary | "-" Number | postfix
postfix  = primary { "." Name | "(" [ given { "," given } ] ")" }
primary  = Number | Text | "true" | "false"
         | Name [ args ] | Name "::" Name [ args ]
         | "{" [ given { "," given } ] "}" | "<" Name ":" expr ">"
         | "[" type "|" [ expr { "," expr } ] "]" | "(" expr [ ":" type ] ")"
given    = Name ":" expr

module   = "module" path { "import" path "as" Name } { decl }
path     = Name { "/" Name }
decl     = [ "export" [ "deprecated" Text ] ] ( typedecl | letdecl | usedecl )
typedecl = "type" TypeName [ "[" variant { "," variant } "]" ] [ ">:" type ] [ "<:" type ] "=" type
variant  = ( "+" | "-" | "=" ) TypeName
letdecl  = "let" Name [ "[" bounded { "," bounded } "]" ] ":" type "=" expr
bounded  = TypeName [ "<:" type ]
usedecl  = "use" Name "::" ( Name | TypeName ) "as" ( Name | TypeName )
`

// form is a part of a rule: a word alone, or several forms in order ("seq"), any of which ("alt"), any number of times ("rep"), or perhaps ("opt").
type form struct {
	kind  string
	word  string
	parts []*form
}

// grammar has the form of each rule by its name.
type grammar map[string]*form

func readGrammar() grammar {
	words := regexp.MustCompile(`"[^"]*"|[A-Za-z]+|[{}\[\]()|=]`)
	g := grammar{}
	for _, rule := range strings.Split(regexp.MustCompile(`\n\s+\|`).ReplaceAllString(rules, " |"), "\n") {
		if rest := words.FindAllString(rule, -1); len(rest) > 0 {
			name := rest[0]
			rest = rest[2:]
			g[name] = readForms(&rest)
		}
	}
	return g
}

// readForms reads alternatives up to a closing bracket or the end.
func readForms(rest *[]string) *form {
	all := &form{kind: "alt", parts: []*form{{kind: "seq"}}}
	brackets := map[string]string{"{": "rep", "[": "opt", "(": "alt"}
	for len(*rest) > 0 {
		word := (*rest)[0]
		*rest = (*rest)[1:]
		last := all.parts[len(all.parts)-1]
		switch {
		case word == "|":
			all.parts = append(all.parts, &form{kind: "seq"})
		case brackets[word] != "":
			last.parts = append(last.parts, &form{kind: brackets[word], parts: []*form{readForms(rest)}})
		case strings.Contains("}])", word):
			return all
		default:
			last.parts = append(last.parts, &form{kind: "word", word: word})
		}
	}
	return all
}

// recognizer finds by trying everything how far a list of tokens follows a grammar.
type recognizer struct {
	grammar  grammar
	tokens   []api.Token
	furthest int // the last token that was compared: all in front of it can stand where they are
	known    map[place][]int
}

type place struct {
	form *form
	at   int
}

// ends returns the places at which a form can end that begins at a place.
func (r *recognizer) ends(f *form, at int) []int {
	if list, ok := r.known[place{f, at}]; ok {
		return list
	}
	var list []int
	switch f.kind {
	case "word":
		list = r.wordEnds(f.word, at)
	case "seq":
		list = []int{at}
		for _, part := range f.parts {
			list = r.allEnds(part, list)
		}
	case "alt":
		for _, part := range f.parts {
			list = append(list, r.ends(part, at)...)
		}
	case "opt":
		list = append(r.ends(f.parts[0], at), at)
	case "rep":
		list = []int{at}
		for more := list; len(more) > 0; list = append(list, more...) {
			more = slices.DeleteFunc(r.allEnds(f.parts[0], more), func(end int) bool { return slices.Contains(list, end) })
		}
	}
	slices.Sort(list)
	list = slices.Clip(slices.Compact(list))
	r.known[place{f, at}] = list
	return list
}

func (r *recognizer) allEnds(f *form, from []int) []int {
	var list []int
	for _, at := range from {
		list = append(list, r.ends(f, at)...)
	}
	return list
}

func (r *recognizer) wordEnds(word string, at int) []int {
	if rule := r.grammar[word]; rule != nil {
		return r.ends(rule, at)
	}
	r.furthest = max(r.furthest, at)
	kinds := map[string]int{"Name": api.TokenName, "TypeName": api.TokenType, "Number": api.TokenNumber, "Text": api.TokenText, "End": api.TokenEnd}
	token := r.tokens[at]
	kind, ok := kinds[word]
	symbol := token.Kind == api.TokenSymbol || token.Kind == api.TokenKeyword
	if ok && token.Kind == kind || !ok && symbol && `"`+token.Text+`"` == word {
		return []int{at + 1}
	}
	return nil
}

// firstWrong returns the offset of the first token that cannot stand at its place by the rule of a name, or -1.
func firstWrong(g grammar, name string, tokens []api.Token) int {
	r := &recognizer{grammar: g, tokens: tokens, known: map[place][]int{}}
	whole := &form{kind: "seq", parts: []*form{{kind: "word", word: name}, {kind: "word", word: "End"}}}
	if len(r.ends(whole, 0)) > 0 {
		return -1
	}
	return tokens[r.furthest].Offset
}

// entry is a function of the package without its tree, with the rule of the grammar that it reads.
type entry struct {
	rule  string
	parse func(source string) (int, api.Errno)
}

func entries() []entry {
	return []entry{
		{"type", func(s string) (int, api.Errno) { _, at, err := parser.Type(s); return at, err }},
		{"expr", func(s string) (int, api.Errno) { _, at, err := parser.Expr(s); return at, err }},
		{"module", func(s string) (int, api.Errno) { _, at, err := parser.Module(s); return at, err }},
	}
}

// looseTokens returns the tokens of a random source.
func looseTokens(choose sample.Choice, rule string) []string {
	l := &loose{choose: choose}
	switch rule {
	case "type":
		l.typ(choose.Type(3))
	case "expr":
		l.expr(choose.Expr(3))
	case "module":
		l.module(choose.Module(2))
	}
	return l.tokens
}

// damaged changes some of the tokens.
func damaged(choose sample.Choice, tokens []string) []string {
	words := strings.Fields("any none int list let in if then else match fold from fn not and or length true module import as export deprecated type use === :: >: <: => == ++ ( ) [ ] { } < > , : = . + - * | ? / x y N 7 \"s\"")
	for range 1 + choose(2) {
		at := choose(len(tokens) + 1)
		word := words[choose(len(words))]
		switch choose(4) {
		case 0:
			tokens = slices.Insert(tokens, at, word)
		case 1:
			tokens = tokens[:at]
		case 2:
			tokens = slices.Delete(tokens, at, min(at+1, len(tokens)))
		case 3:
			tokens = slices.Replace(tokens, at, min(at+1, len(tokens)), word)
		}
	}
	return tokens
}

// P5.1, P5.2: for random sources that are damaged, an ErrSyntax stands at the first token that does not follow the grammar, and a source without an error follows it; cut off in front of it, the source ends too early, or is a whole one.
func TestAgainstGrammar(t *testing.T) {
	g, choose := readGrammar(), random(1)
	for _, x := range entries() {
		counts := map[api.Errno]int{}
		for range 4000 {
			source := strings.Join(damaged(choose, looseTokens(choose, x.rule)), " ")
			tokens, _, err := lexer.Lex(source)
			if err != api.OK {
				t.Fatalf("%q has no tokens", source)
			}
			want := firstWrong(g, x.rule, tokens)
			at, err := x.parse(source)
			counts[err]++
			switch err {
			case api.ErrSyntax:
				if at != want {
					t.Fatalf("%q has an ErrSyntax at %d, not at %d", source, at, want)
				}
				if cutAt, cutErr := x.parse(source[:at]); cutErr == api.ErrSyntax && cutAt != at {
					t.Fatalf("%q has an ErrSyntax at %d", source[:at], cutAt)
				} else if cutErr != api.ErrSyntax && firstWrong(g, x.rule, lexed(t, source[:at])) != -1 {
					t.Fatalf("%q has the error %d", source[:at], cutErr)
				}
			case api.ErrExists, api.ErrName, api.ErrRange:
				// The parser's own errors stand in front of a token that is wrong.
				if want >= 0 && at >= want {
					t.Fatalf("%q has the error %d at %d, behind %d", source, err, at, want)
				}
			default:
				if want >= 0 {
					t.Fatalf("%q has the error %d, and not an ErrSyntax at %d", source, err, want)
				}
			}
		}
		if counts[api.OK] < 50 || counts[api.ErrSyntax] < 1000 {
			t.Errorf("the sources of the rule %s have the errors %v", x.rule, counts)
		}
	}
}

func lexed(t *testing.T, source string) []api.Token {
	t.Helper()
	tokens, _, err := lexer.Lex(source)
	if err != api.OK {
		t.Fatalf("%q has no tokens", source)
	}
	return tokens
}

// P5.1: all short lists of tokens of types and expressions.
func TestShortSources(t *testing.T) {
	g := readGrammar()
	words := map[string][]string{
		"type":   strings.Fields("int list fn { } < > ( ) [ ] , | : :: ? a N"),
		"expr":   strings.Fields("let if fn not or == - + length . a N 1 ( ) { } < > [ ] | : , =>"),
		"module": strings.Fields("module a / v1 import as export deprecated \"\" type let use N = int :: [ + <: :"),
	}
	for _, x := range entries() {
		var visit func(tokens []string, more int)
		visit = func(tokens []string, more int) {
			source := strings.Join(tokens, " ")
			want := firstWrong(g, x.rule, lexed(t, source))
			at, err := x.parse(source)
			if (err == api.ErrSyntax) != (want >= 0) && err != api.ErrName && err != api.ErrExists || err == api.ErrSyntax && at != want {
				t.Fatalf("%q has the error %d at %d; the first wrong token is at %d", source, err, at, want)
			}
			// Behind a wrong token nothing changes.
			if more == 0 || want >= 0 && want < len(source) {
				return
			}
			for _, word := range words[x.rule] {
				visit(append(slices.Clip(tokens), word), more-1)
			}
		}
		visit(nil, 5)
		if x.rule == "module" {
			visit(strings.Fields("module a / v1"), 5)
			visit(strings.Fields("module a / v1 let a : int = a export"), 3)
		}
	}
}
