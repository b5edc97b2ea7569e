package subtype

import (
	"strconv"
	"strings"

	"modcert/api"
)

// types numbers the types that a decision meets. Equal types have one number, so that judgments about them can be compared; and a type that occurs many times in others exists once, so that their trees may be large.
type types struct {
	nodes   []node
	numbers map[string]int
}

// node is a type whose parts are numbers of types.
type node struct {
	kind         int
	module, name string
	args         []int
	fields       []field
}

type field struct {
	name     string
	number   int
	optional bool
}

// key returns a text that no other node has.
func (n node) key() string {
	var b strings.Builder
	add := func(number int) {
		b.WriteString(strconv.Itoa(number))
		b.WriteByte(' ')
	}
	addText := func(s string) {
		add(len(s))
		b.WriteString(s)
	}
	add(n.kind)
	addText(n.module)
	addText(n.name)
	add(len(n.args))
	for _, argument := range n.args {
		add(argument)
	}
	for _, f := range n.fields {
		addText(f.name)
		add(f.number)
		b.WriteString(strconv.FormatBool(f.optional))
	}
	return b.String()
}

// add returns the number of a node.
func (l *types) add(n node) int {
	key := n.key()
	number, known := l.numbers[key]
	if !known {
		number = len(l.nodes)
		l.nodes = append(l.nodes, n)
		l.numbers[key] = number
	}
	return number
}

// number returns the number of a type.
func (l *types) number(t api.Type) int {
	n := node{kind: t.Kind, module: t.Module, name: t.Name}
	for _, argument := range t.Args {
		n.args = append(n.args, l.number(argument))
	}
	for _, f := range t.Fields {
		n.fields = append(n.fields, field{f.Name, l.number(f.Type), f.Optional})
	}
	return l.add(n)
}

// tree returns the type with a number.
func (l *types) tree(number int) api.Type {
	n := l.nodes[number]
	t := api.Type{Kind: n.kind, Module: n.module, Name: n.name}
	for _, argument := range n.args {
		t.Args = append(t.Args, l.tree(argument))
	}
	for _, f := range n.fields {
		t.Fields = append(t.Fields, api.Field{Name: f.name, Type: l.tree(f.number), Optional: f.optional})
	}
	return t
}

// substituted returns the type with a number, with types in place of variables.
func (l *types) substituted(number int, replaced map[string]int) int {
	var change func(number int) int
	change = remembered(func(number int) int {
		n := l.nodes[number]
		if n.kind == api.TypeVar {
			if other, ok := replaced[n.name]; ok {
				return other
			}
		}
		changed := node{kind: n.kind, module: n.module, name: n.name}
		for _, argument := range n.args {
			changed.args = append(changed.args, change(argument))
		}
		for _, f := range n.fields {
			changed.fields = append(changed.fields, field{f.name, change(f.number), f.optional})
		}
		return l.add(changed)
	})
	return change(number)
}

// remembered returns a function that calls another one only once for each key.
func remembered[K comparable, V any](find func(K) V) func(K) V {
	known := map[K]V{}
	return func(key K) V {
		value, ok := known[key]
		if !ok {
			value = find(key)
			known[key] = value
		}
		return value
	}
}
