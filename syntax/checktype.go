package syntax

import (
	"modcert/api"
	"modcert/lexer"
)

// CheckType returns the error of the form of a type.
func CheckType(t api.Type) api.Errno {
	if typeSize(t, api.MaxNodes) > api.MaxNodes || TypeDepth(t) > api.MaxDepth {
		return api.ErrTooLarge
	}
	for node := range typeNodes(t) {
		if err := checkTypeNode(node); err != api.OK {
			return err
		}
	}
	return api.OK
}

func checkTypeNode(t api.Type) api.Errno {
	names := make([]string, 0, len(t.Fields))
	for _, field := range t.Fields {
		names = append(names, field.Name)
	}
	switch {
	case len(t.Args) != typeArgs(t) || !namedTypeParts(t):
		return api.ErrArg
	case len(t.Fields) > api.MaxFields || len(t.Args) > api.MaxParams:
		return api.ErrTooLarge
	case !typeNames(t) || !allNames(names):
		return api.ErrName
	}
	return checkOrder(names)
}

// typeArgs returns the number of Args that the form of a type asks for, or -1 if its kind is unknown.
func typeArgs(t api.Type) int {
	switch t.Kind {
	case api.TypeAny, api.TypeNone, api.TypeInt, api.TypeBool, api.TypeText, api.TypeRecord, api.TypeVariant, api.TypeVar:
		return 0
	case api.TypeList, api.TypeFunc:
		return 1
	case api.TypeRef:
		return len(t.Args)
	}
	return -1
}

// namedTypeParts reports whether a type has nothing beside its Args and what the form of its kind names: what is left without them is empty.
func namedTypeParts(t api.Type) bool {
	optional := false
	for _, field := range t.Fields {
		optional = optional || field.Optional
	}
	rest := t
	rest.Kind, rest.Args = 0, nil
	switch t.Kind {
	case api.TypeRecord, api.TypeVariant:
		rest.Fields = nil
	case api.TypeFunc:
		rest.Fields, optional = nil, false
	case api.TypeVar:
		rest.Name = ""
	case api.TypeRef:
		rest.Module, rest.Name = "", ""
	}
	return !optional && EqualTypes(rest, api.Type{})
}

// typeNames reports whether Module and Name of a type are as in the form of its kind.
func typeNames(t api.Type) bool {
	switch t.Kind {
	case api.TypeVar:
		return Variable(t.Name)
	case api.TypeRef:
		return isOrigin(t.Module) && lexer.IsType(t.Name)
	}
	return true
}

// isModule reports whether a string names a module, by an alias or by a path.
func isModule(s string) bool {
	return lexer.IsName(s) || lexer.IsPath(s)
}

// isOrigin reports whether a string can be the Module of a type or of a value: the empty one is the module itself.
func isOrigin(s string) bool {
	return s == "" || isModule(s)
}

func allNames(list []string) bool {
	for _, name := range list {
		if !lexer.IsName(name) {
			return false
		}
	}
	return true
}

// checkOrder returns the error of the first name that is not greater than the one before it.
func checkOrder(names []string) api.Errno {
	for i := 1; i < len(names); i++ {
		if names[i] == names[i-1] {
			return api.ErrExists
		}
		if names[i] < names[i-1] {
			return api.ErrArg
		}
	}
	return api.OK
}
