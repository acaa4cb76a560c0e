package ways

import (
	"bytes"
	"go/ast"
	"go/format"
	"go/parser"
	"go/token"
	"os"
	"path/filepath"
	"slices"
	"strconv"
	"strings"
	"testing"
)

// longest is how many lines a function has at most.
const longest = 60

// library is what of the library may be imported.
const library = " bytes cmp container/heap errors iter maps math math/bits slices sort strconv strings sync sync/atomic unicode unicode/utf8 "

// calls is, package by package, which of the project's it may call beside api: the document's map.
func calls() map[string]string {
	return map[string]string{
		"api": "", "sample": "", "spot": "", "digits": "", "token": "", "ident": "token", "table": "ident", "net": "ident", "order": "net",
		"step": "net order", "aig": "", "cover": "", "lower": "ident net order aig cover", "raise": "ident net aig lower",
		"aiger": "spot digits ident aig lower raise", "packed": "spot digits aig lower raise aiger",
		"blif": "spot token ident net order", "bench": "spot token ident net order cover",
		"verilog": "spot token ident net order bench", "trans": "lower raise aiger packed blif bench verilog",
		"cnf": "aig", "proof": "cnf", "solve": "cnf", "witness": "spot digits aig lower",
		"inv": "spot ident table lower cnf solve", "cross": "aig lower cnf solve", "hub": "table trans witness inv cross",
	}
}

func TestLanguage(t *testing.T) {
	for pack, below := range calls() {
		files, err := filepath.Glob(filepath.Join("..", pack, "*.go"))
		if err != nil || len(files) == 0 {
			t.Fatal(pack, err)
		}
		for _, f := range files {
			if !strings.HasSuffix(f, "_test.go") {
				readFile(t, f, " api "+below+" ")
			}
		}
	}
}

func readFile(t *testing.T, name, below string) {
	src, err := os.ReadFile(name)
	if err != nil {
		t.Fatal(err)
	}
	if nice, err := format.Source(src); err != nil || !bytes.Equal(nice, src) {
		t.Errorf("%s: not in gofmt's layout: %v", name, err)
	}
	if bytes.Contains(src, []byte("//go:")) || bytes.Contains(src, []byte("+build")) {
		t.Errorf("%s: a line for the compiler", name)
	}
	fset := token.NewFileSet()
	a, err := parser.ParseFile(fset, name, src, 0)
	if err != nil {
		t.Fatal(err)
	}
	readImports(t, name, below, a)
	readPackageLevel(t, name, fset, a)
	ast.Inspect(a, func(n ast.Node) bool {
		readNode(t, fset, n)
		return true
	})
}

func readImports(t *testing.T, name, below string, a *ast.File) {
	for _, i := range a.Imports {
		path, _ := strconv.Unquote(i.Path.Value)
		own, is := strings.CutPrefix(path, "patchbay/")
		if is && !strings.Contains(below, " "+own+" ") || !is && !strings.Contains(library, " "+path+" ") {
			t.Errorf("%s imports %s", name, path)
		}
	}
}

func readPackageLevel(t *testing.T, name string, fset *token.FileSet, a *ast.File) {
	for _, d := range a.Decls {
		switch x := d.(type) {
		case *ast.FuncDecl:
			if n := fset.Position(x.End()).Line - fset.Position(x.Pos()).Line + 1; n > longest {
				t.Errorf("%s: %s has %d lines", name, x.Name.Name, n)
			}
			if x.Name.Name == "init" {
				t.Errorf("%s: init", name)
			}
		case *ast.GenDecl:
			if x.Tok == token.VAR {
				t.Errorf("%s: a variable at package level, line %d", name, fset.Position(x.Pos()).Line)
			}
		}
	}
}

func readNode(t *testing.T, fset *token.FileSet, n ast.Node) {
	switch x := n.(type) {
	case *ast.MapType:
		value, ok := x.Value.(*ast.Ident)
		if ok && slices.Contains([]string{"bool", "string"}, value.Name) {
			t.Errorf("%v: a map whose values are of type %s", fset.Position(x.Pos()), value.Name)
		}
		key, ok := x.Key.(*ast.Ident)
		if ok && slices.Contains([]string{"float64", "float32", "any", "error"}, key.Name) {
			t.Errorf("%v: a map whose keys are of type %s", fset.Position(x.Pos()), key.Name)
		}
	case *ast.SelectorExpr:
		pack, ok := x.X.(*ast.Ident)
		if ok && pack.Name == "iter" && strings.HasPrefix(x.Sel.Name, "Pull") {
			t.Errorf("%v: iter.%s", fset.Position(x.Pos()), x.Sel.Name)
		}
	case *ast.CallExpr:
		f, ok := x.Fun.(*ast.Ident)
		if ok && (f.Name == "print" || f.Name == "println") {
			t.Errorf("%v: printing", fset.Position(x.Pos()))
		}
	}
}
