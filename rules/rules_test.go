// Package rules holds the program's packages against the rules of its language. (It has tests alone.)
package rules

import (
	"bytes"
	"go/ast"
	"go/format"
	"go/parser"
	"go/token"
	"os"
	"path/filepath"
	"slices"
	"strconv"
	"strings"
	"testing"
)

// lines is how many lines a function may have.
const lines = 60

// library: what the program may import, besides its own packages.
const library = " bytes cmp container/heap errors iter maps math math/bits slices sort strconv strings sync sync/atomic unicode unicode/utf8 "

// packages are the program's own, by their layers: what else is laid beside them is not looked at.
const packages = "arith store segs stack instr code verify procs pick join sema region units bank holt alloc event kernel task machine " +
	"token tree expr parse pretty scope typing span hold gen interp audit script fair drive sample"

// sources are the program's files but its tests.
func sources(t *testing.T) []string {
	var own []string
	for _, p := range strings.Fields(packages) {
		all, err := filepath.Glob("../" + p + "/*.go")
		if err != nil || len(all) == 0 {
			t.Fatal("no sources of", p, err)
		}
		for _, f := range all {
			if !strings.HasSuffix(f, "_test.go") {
				own = append(own, f)
			}
		}
	}
	return own
}

func TestRules(t *testing.T) {
	for _, name := range sources(t) {
		text, err := os.ReadFile(name)
		if err != nil {
			t.Fatal(err)
		}
		set := token.NewFileSet()
		file, err := parser.ParseFile(set, name, text, parser.ParseComments)
		if err != nil {
			t.Fatal(err)
		}
		if laid, err := format.Source(text); err != nil || !bytes.Equal(laid, text) {
			t.Errorf("%s is not laid out as gofmt does", name)
		}
		imports(t, name, file)
		remarks(t, name, file)
		for _, d := range file.Decls {
			declaration(t, set, name, d)
		}
	}
}

// imports: of the library only what the language lists; of the program only api and layers above in the map.
func imports(t *testing.T, name string, file *ast.File) {
	layers := strings.Fields("api " + packages)
	own := slices.Index(layers, filepath.Base(filepath.Dir(name)))
	for _, i := range file.Imports {
		path, _ := strconv.Unquote(i.Path.Value)
		layer, of := strings.CutPrefix(path, "signalbox/")
		if of && !slices.Contains(layers[:own], layer) || !of && !strings.Contains(library, " "+path+" ") {
			t.Errorf("%s imports %s", name, path)
		}
	}
}

// remarks: no directives.
func remarks(t *testing.T, name string, file *ast.File) {
	for _, g := range file.Comments {
		for _, c := range g.List {
			if strings.HasPrefix(c.Text, "//go:") || strings.HasPrefix(c.Text, "// +build") {
				t.Errorf("%s has %s", name, c.Text)
			}
		}
	}
}

// declaration: functions are small; package variables are tables of literals.
func declaration(t *testing.T, set *token.FileSet, name string, d ast.Decl) {
	switch x := d.(type) {
	case *ast.FuncDecl:
		if n := set.Position(x.End()).Line - set.Position(x.Pos()).Line + 1; n > lines {
			t.Errorf("%s: %s has %d lines", name, x.Name.Name, n)
		}
		if x.Doc == nil && x.Name.IsExported() {
			t.Errorf("%s: %s has no remark", name, x.Name.Name)
		}
	case *ast.GenDecl:
		if x.Tok != token.VAR {
			return
		}
		for _, s := range x.Specs {
			v := s.(*ast.ValueSpec)
			if len(v.Values) != len(v.Names) {
				t.Errorf("%s: %s has no value of its own", name, v.Names[0].Name)
			}
			for _, e := range v.Values {
				literal(t, name, e)
			}
		}
	}
}

// literal: nothing is called or named in a starting value but errors.New and what api numbers.
func literal(t *testing.T, name string, e ast.Expr) {
	ast.Inspect(e, func(n ast.Node) bool {
		switch x := n.(type) {
		case *ast.CallExpr:
			f, ok := x.Fun.(*ast.SelectorExpr)
			if !ok || f.Sel.Name != "New" {
				t.Errorf("%s: a package variable's value is made by a call", name)
			}
		case *ast.FuncLit, *ast.MapType, *ast.UnaryExpr:
			if u, ok := x.(*ast.UnaryExpr); !ok || u.Op == token.AND {
				t.Errorf("%s: a package variable holds what it may not", name)
			}
		}
		return true
	})
}
