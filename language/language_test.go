// Package language contains the tests that the packages keep to the rules of the language (shared/LANGUAGE.md).
package language

import (
	"go/ast"
	"go/build/constraint"
	"go/format"
	"go/parser"
	"go/token"
	"os"
	"path/filepath"
	"slices"
	"strconv"
	"strings"
	"testing"
)

// layers are the packages from layer 1 to layer 60, separated by spaces.
const layers = "sha256 codec lexer syntax parser printer environ wellformed subtype scope check extract module evaluate " +
	"identity derivation condition refine diff probe shrink enumerate behavior version verdict facade deprecate usage " +
	"relative certificate constraint index graph mvs term proof solver explain lock override bundle advisory yank waves " +
	"rollout merkle signature checkpoint objects disk journal store owners review publish collect mirror client scenario console"

// others are the packages that are no layers.
const others = "sample author"

const mostLines = 60 // of a function

const library = "bytes cmp container/heap errors iter maps math math/bits slices sort strconv strings sync sync/atomic unicode unicode/utf8"

// source is a Go file of a package, without tests.
type source struct {
	layer string
	name  string
	tree  *ast.File
	files *token.FileSet
}

// sources returns all files of the layers and the other packages that are no tests.
func sources(t *testing.T) []source {
	t.Helper()
	var list []source
	for _, layer := range strings.Fields(layers + " " + others) {
		folder := filepath.Join("..", layer)
		entries, err := os.ReadDir(folder)
		if err != nil {
			t.Fatal(err)
		}
		for _, entry := range entries {
			name := filepath.Join(folder, entry.Name())
			if strings.HasSuffix(name, "_test.go") {
				continue
			}
			if !strings.HasSuffix(name, ".go") {
				t.Errorf("%s is beside the Go files", name)
				continue
			}
			files := token.NewFileSet()
			tree, err := parser.ParseFile(files, name, nil, parser.ParseComments)
			if err != nil {
				t.Fatal(err)
			}
			list = append(list, source{layer, name, tree, files})
		}
	}
	return list
}

func imports(t *testing.T, s source) []string {
	t.Helper()
	var list []string
	for _, spec := range s.tree.Imports {
		path, err := strconv.Unquote(spec.Path.Value)
		if err != nil {
			t.Fatal(err)
		}
		list = append(list, path)
	}
	return list
}

// LANGUAGE.md, rule 1: the packages of the library that may be imported.
func TestLibraryPackages(t *testing.T) {
	permitted := strings.Fields(library)
	for _, s := range sources(t) {
		for _, path := range imports(t, s) {
			if !strings.HasPrefix(path, "modcert/") && !slices.Contains(permitted, path) {
				t.Errorf("%s imports %s", s.name, path)
			}
		}
	}
}

// calls returns the layers that each layer calls (DOC.md, Overview), separated by spaces, for those that are built.
func calls() map[string]string {
	return map[string]string{"sha256": "", "codec": "", "lexer": "", "syntax": "lexer", "parser": "lexer syntax", "printer": "lexer syntax",
		"environ": "syntax", "wellformed": "lexer syntax environ", "subtype": "environ wellformed", "scope": "lexer syntax",
		"check": "environ wellformed subtype", "extract": "sha256 codec lexer syntax",
		"module": "syntax parser environ wellformed subtype scope check extract", "evaluate": "lexer syntax"}
}

// DOC.md, Overview: the layers are built on each other in their order, and call no others than those that the table names, nor what is made for tests.
func TestLayers(t *testing.T) {
	order := strings.Fields(layers)
	for _, s := range sources(t) {
		if name := s.tree.Name.Name; name != s.layer {
			t.Errorf("the package of %s is %s", s.name, name)
		}
		at := slices.Index(order, s.layer)
		if at < 0 {
			continue
		}
		called, built := calls()[s.layer]
		for _, path := range imports(t, s) {
			layer := strings.TrimPrefix(path, "modcert/")
			other := slices.Index(order, layer)
			if other >= at || other >= 0 && built && !slices.Contains(strings.Fields(called), layer) || slices.Contains(strings.Fields(others), layer) {
				t.Errorf("%s imports %s", s.name, path)
			}
		}
	}
}

// LANGUAGE.md, rule 2: there are neither directives nor build tags.
func TestDirectives(t *testing.T) {
	for _, s := range sources(t) {
		for _, group := range s.tree.Comments {
			for _, comment := range group.List {
				if strings.HasPrefix(comment.Text, "//go:") || constraint.IsPlusBuild(comment.Text) {
					t.Errorf("%s has the directive %s", s.name, comment.Text)
				}
			}
		}
	}
}

// permittedVariable reports whether a variable of the package level is a table of literals or an error.
func permittedVariable(spec *ast.ValueSpec) bool {
	if len(spec.Values) != len(spec.Names) {
		return false
	}
	for _, value := range spec.Values {
		if call, ok := value.(*ast.CallExpr); ok {
			function, ok := call.Fun.(*ast.SelectorExpr)
			if !ok || function.Sel.Name != "New" || len(call.Args) != 1 {
				return false
			}
			continue
		}
		for node := range ast.Preorder(value) {
			switch node.(type) {
			case *ast.MapType, *ast.FuncType, *ast.CallExpr:
				return false
			}
		}
	}
	return true
}

// LANGUAGE.md, rules 3a and 3b: the package level contains neither maps, functions, computed values nor variables without a value.
func TestPackageLevel(t *testing.T) {
	for _, s := range sources(t) {
		for _, declaration := range s.tree.Decls {
			general, ok := declaration.(*ast.GenDecl)
			if !ok || general.Tok != token.VAR {
				continue
			}
			for _, spec := range general.Specs {
				if variables := spec.(*ast.ValueSpec); !permittedVariable(variables) {
					t.Errorf("%s has the variable %s", s.name, variables.Names[0].Name)
				}
			}
		}
	}
}

// LANGUAGE.md, rule 9: functions have at most 60 lines.
func TestLengths(t *testing.T) {
	for _, s := range sources(t) {
		for _, declaration := range s.tree.Decls {
			function, ok := declaration.(*ast.FuncDecl)
			if !ok {
				continue
			}
			if lines := s.files.Position(function.End()).Line - s.files.Position(function.Pos()).Line + 1; lines > mostLines {
				t.Errorf("%s of %s has %d lines", function.Name.Name, s.name, lines)
			}
		}
	}
}

// LANGUAGE.md, rule 9: the layout is that of gofmt.
func TestLayout(t *testing.T) {
	for _, s := range sources(t) {
		text, err := os.ReadFile(s.name)
		if err != nil {
			t.Fatal(err)
		}
		if formatted, err := format.Source(text); err != nil || string(formatted) != string(text) {
			t.Errorf("%s has another layout than that of gofmt", s.name)
		}
	}
}
