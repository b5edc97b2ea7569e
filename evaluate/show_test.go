package evaluate_test

import (
	"math"
	"math/rand"
	"strconv"
	"strings"
	"testing"

	"modcert/api"
	"modcert/evaluate"
	"modcert/lexer"
)

func number(n int) api.Value {
	return api.Value{Kind: api.ValueInt, Number: n}
}

func text(s string) api.Value {
	return api.Value{Kind: api.ValueText, Text: s}
}

func items(values ...api.Value) api.Value {
	return api.Value{Kind: api.ValueList, Items: values}
}

func record(names string, values ...api.Value) api.Value {
	return api.Value{Kind: api.ValueRecord, Names: strings.Fields(names), Items: values}
}

func function(names ...string) api.Value {
	e := api.Expr{Kind: api.ExprFunc}
	for _, name := range names {
		e.Labels = append(e.Labels, api.Label{Name: name})
	}
	return api.Value{Kind: api.ValueFunc, Code: []api.Expr{e}}
}

// P14.2: the texts of values, also of those without their form.
func TestShow(t *testing.T) {
	variant := func(names string, values ...api.Value) api.Value {
		v := record(names, values...)
		v.Kind = api.ValueVariant
		return v
	}
	unknown := api.Value{Kind: 7, Number: 1, Text: "a", Names: []string{"a"}, Items: []api.Value{number(1)}}
	for _, c := range []struct {
		v    api.Value
		want string
	}{
		{api.Value{}, "0"},
		{number(42), "42"},
		{number(-1), "-1"},
		{number(math.MinInt), "-9223372036854775808"},
		{text(""), `""`},
		{text("a\"b\\\n\x00\xff"), `"a\"b\\\n\x00\xff"`},
		{api.Value{Kind: api.ValueBool}, "false"},
		{api.Value{Kind: api.ValueBool, Number: 1}, "true"},
		{api.Value{Kind: api.ValueBool, Number: 2}, "false"},
		{api.Value{Kind: api.ValueBool, Number: -1}, "false"},
		{items(), "[]"},
		{items(number(1)), "[1]"},
		{items(number(1), text("a"), items()), `[1, "a", []]`},
		{record(""), "{}"},
		{record("a", number(1)), "{a: 1}"},
		{record("b a", items(number(1)), record("c", text(""))), `{b: [1], a: {c: ""}}`},
		{record("a b c", number(1), number(2)), "{a: 1, b: 2}"},
		{record("a", number(1), number(2)), "{a: 1}"},
		{record("a b"), "{}"},
		{record("", number(1)), "{}"},
		{variant("c", number(1)), "<c: 1>"},
		{variant("c", variant("d", items())), "<c: <d: []>>"},
		{variant("c d", number(1), number(2)), "<c: 1, d: 2>"},
		{variant("c"), "<>"},
		{variant("", number(1)), "<>"},
		{function(), "fn()"},
		{function("a"), "fn(a)"},
		{function("a", "b", "c"), "fn(a, b, c)"},
		{api.Value{Kind: api.ValueFunc}, "fn()"},
		{api.Value{Kind: api.ValueFunc, Names: []string{"x"}, Items: []api.Value{number(1)}}, "fn()"},
		{unknown, ""},
		{api.Value{Kind: -1, Text: "a"}, ""},
		{items(unknown, number(1), unknown), "[, 1, ]"},
		{record("a b", unknown, unknown), "{a: , b: }"},
	} {
		if got := evaluate.Show(c.v); got != c.want {
			t.Errorf("%+v: %s, not %s", c.v, got, c.want)
		}
	}
}

// direct returns the text of a value that is not long.
func direct(v api.Value) string {
	var parts []string
	switch v.Kind {
	case api.ValueInt:
		return strconv.Itoa(v.Number)
	case api.ValueText:
		return lexer.Quote(v.Text)
	case api.ValueBool:
		return map[bool]string{true: "true", false: "false"}[v.Number == 1]
	case api.ValueList:
		for _, item := range v.Items {
			parts = append(parts, direct(item))
		}
		return "[" + strings.Join(parts, ", ") + "]"
	case api.ValueRecord, api.ValueVariant:
		for i := 0; i < len(v.Names) && i < len(v.Items); i++ {
			parts = append(parts, v.Names[i]+": "+direct(v.Items[i]))
		}
		if v.Kind == api.ValueVariant {
			return "<" + strings.Join(parts, ", ") + ">"
		}
		return "{" + strings.Join(parts, ", ") + "}"
	case api.ValueFunc:
		if len(v.Code) > 0 {
			for _, label := range v.Code[0].Labels {
				parts = append(parts, label.Name)
			}
		}
		return "fn(" + strings.Join(parts, ", ") + ")"
	}
	return ""
}

// P14.2: the texts of random values, with and without their form.
func TestRandomShows(t *testing.T) {
	r := rand.New(rand.NewSource(142))
	for range 20000 {
		v := random[api.Value](r, 6)
		want := direct(v)
		if got := evaluate.Show(v); got != want[:min(len(want), api.MaxText)] {
			t.Fatalf("%+v: %s, not %s", v, got, want)
		}
	}
}

// P14.2: a text is cut off behind MaxText bytes, wherever this is.
func TestLongTexts(t *testing.T) {
	numbers := func(count int) api.Value {
		return items(make([]api.Value, count)...)
	}
	var many []string
	var long []api.Value
	for i := range 9000 {
		many = append(many, "n"+strconv.Itoa(i))
		long = append(long, text(strings.Repeat("x", i%50)))
	}
	for _, v := range []api.Value{
		numbers(api.MaxText / 3), numbers(api.MaxText/3 + 1), numbers(api.MaxText/3 - 1), numbers(api.MaxText),
		text(strings.Repeat("a", api.MaxText-2)), text(strings.Repeat("a", api.MaxText-1)), text(strings.Repeat("a", api.MaxText)), text(strings.Repeat("\x00", api.MaxText)),
		items(text(strings.Repeat("a", api.MaxText-4))), items(text(strings.Repeat("a", api.MaxText-3)), number(1)),
		items(text(strings.Repeat("a", api.MaxText-5)), number(1)), items(text(strings.Repeat("a", api.MaxText-7)), number(123)),
		record(strings.Join(many, " "), long...), function(many...), record("x", text(strings.Repeat("a", api.MaxText))),
		record(strings.Repeat("n", api.MaxText), number(1)), record(strings.Repeat("n", api.MaxText-1), number(1)), function(strings.Repeat("n", api.MaxText+5)),
	} {
		want := direct(v)
		if got := evaluate.Show(v); got != want[:min(len(want), api.MaxText)] {
			t.Errorf("%d bytes of %d: %q", len(got), len(want), got[max(0, len(got)-20):])
		}
	}
	deep := number(1)
	for range api.MaxText/2 - 1 {
		deep = items(deep)
	}
	brackets := strings.Repeat("[", api.MaxText/2-1) + "1" + strings.Repeat("]", api.MaxText/2-1)
	for range 2 {
		if got := evaluate.Show(deep); got != brackets[:min(len(brackets), api.MaxText)] {
			t.Errorf("%d bytes of %d", len(got), len(brackets))
		}
		for range api.MaxText {
			deep, brackets = items(deep), ""
		}
		brackets = strings.Repeat("[", api.MaxText)
	}
}

// P14.2: Show is quick if items are shared by many others, or even contain themselves.
func TestSharedItems(t *testing.T) {
	within(t, "Show", func() {
		doubled, wide := number(1), number(1)
		for range 5000 {
			doubled = record("a b", doubled, doubled)
			wide = api.Value{Kind: api.ValueList, Items: []api.Value{wide, wide, wide, wide, wide, wide, wide, wide, wide, wide}}
		}
		if got := evaluate.Show(doubled); len(got) != api.MaxText || !strings.HasPrefix(got, "{a: {a: {a: ") {
			t.Error(len(got))
		}
		if got := evaluate.Show(wide); len(got) != api.MaxText || !strings.HasPrefix(got, "[[[[") {
			t.Error(len(got))
		}
		endless := api.Value{Kind: api.ValueList, Items: make([]api.Value, 5000)}
		for i := range endless.Items {
			endless.Items[i] = endless
		}
		if got := evaluate.Show(endless); got != strings.Repeat("[", api.MaxText) {
			t.Error(len(got))
		}
		cases := api.Value{Kind: api.ValueVariant, Names: make([]string, 5000), Items: make([]api.Value, 5000)}
		for i := range cases.Items {
			cases.Items[i] = cases
		}
		if got := evaluate.Show(cases); got != strings.Repeat("<: ", api.MaxText)[:api.MaxText] {
			t.Error(len(got))
		}
		empty := api.Value{Kind: api.ValueList, Items: make([]api.Value, 1<<20)}
		for i := range empty.Items {
			empty.Items[i].Kind = 99
		}
		if got := evaluate.Show(items(empty, empty)); got != "[["+strings.Repeat(", ", api.MaxText/2-1) {
			t.Error(len(got))
		}
	})
	// The value of a program whose parts are shared.
	source := "let x = {} in "
	for range 28 {
		source += "let x = {a: x, b: x} in "
	}
	v, steps, err := evaluate.Run(valued(source+"x"), "m/v1", "v")
	if err != api.OK || steps != 2+28*4+1 {
		t.Fatal(errorName(err), steps)
	}
	if got := evaluate.Show(v); len(got) != api.MaxText || !strings.HasPrefix(got, strings.Repeat("{a: ", 28)+"{}, b: {}}, b: {a: {}") {
		t.Error(len(got))
	}
	// And one whose parts have too many copies.
	within(t, "Run", func() {
		ones := strings.Repeat("1, ", 999) + "1"
		p := valued("fold[any] e, x in [int| " + ones + "] from {} => {a: x, b: x, c: fn(y: {z: any}) => x}")
		v, steps, err := evaluate.Run(p, "m/v1", "v")
		if got := evaluate.Show(v); err != api.OK || steps != 1+1001+1+4000 || len(got) != api.MaxText {
			t.Error(len(got), steps, errorName(err))
		}
	})
}
