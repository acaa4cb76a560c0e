// Package ways tests what the document and the language's rules ask of the code itself.
package ways

import (
	"go/ast"
	"go/build"
	"go/importer"
	"go/parser"
	"go/token"
	"go/types"
	"os/exec"
	"path/filepath"
	"strings"
	"testing"
)

// leans is, package by package, what the section 'Ways' names.
func leans() map[string]string {
	return map[string]string{
		"spot":    "range-function array-compared closure",
		"digits":  "range-function range-integer errors.As",
		"token":   "interface interface-call panic recover defer closure",
		"ident":   "method-value array map range-function",
		"table":   "map method-value range-function-two",
		"net":     "map array panic recover defer range-function",
		"order":   "container/heap.Pop map delete range-function",
		"step":    "fallthrough map range-function-two function-field",
		"aig":     "map array-keys embedding promoted method-value range-function",
		"cover":   "range-function array-compared closure panic recover defer",
		"lower":   "map method-expression panic recover defer closure",
		"raise":   "map interface interface-call function-field",
		"aiger":   "panic recover defer array method-value variadic",
		"packed":  "panic recover defer range-function-two three-index",
		"blif":    "map method-expression panic recover defer range-function",
		"bench":   "map generic-function panic recover defer method-value",
		"verilog": "map panic recover defer method-value",
		"trans":   "function-field array errors.As",
		"cnf":     "embedding promoted variadic method-value",
		"proof":   "map range-function closure",
		"solve":   "container/heap.Pop map panic recover defer range-function",
		"witness": "range-string panic recover defer generic-function",
		"inv":     "range-function map function-field",
		"cross":   "range-function map closure embedding promoted",
		"hub":     "array method-value go sync.WaitGroup errors.As",
	}
}

func TestWays(t *testing.T) {
	l := newLook(t)
	for pack, words := range leans() {
		got := l.ways(t, pack)
		for _, w := range strings.Fields(words) {
			if !got[w] {
				t.Errorf("package %s: way missing: %s", pack, w)
			}
		}
	}
}

// look finds ways in the project's packages, each of which is checked by its types once.
type look struct {
	fset  *token.FileSet
	std   types.Importer
	packs map[string]*types.Package
	files map[string][]*ast.File
	info  *types.Info
}

func newLook(t *testing.T) *look {
	if build.Default.GOROOT == "" {
		root, err := exec.Command("go", "env", "GOROOT").Output()
		if err != nil {
			t.Fatal(err)
		}
		build.Default.GOROOT = strings.TrimSpace(string(root))
	}
	l := &look{fset: token.NewFileSet(), packs: map[string]*types.Package{}, files: map[string][]*ast.File{}}
	l.std = importer.ForCompiler(l.fset, "source", nil)
	l.info = &types.Info{Types: map[ast.Expr]types.TypeAndValue{}, Uses: map[*ast.Ident]types.Object{}, Selections: map[*ast.SelectorExpr]*types.Selection{}}
	return l
}

// Import is for the checker of types: the project's packages are read from the tree, others from the library.
func (l *look) Import(path string) (*types.Package, error) {
	name, own := strings.CutPrefix(path, "patchbay/")
	if !own {
		return l.std.Import(path)
	}
	if p := l.packs[name]; p != nil {
		return p, nil
	}
	files, err := filepath.Glob(filepath.Join("..", name, "*.go"))
	if err != nil {
		return nil, err
	}
	for _, f := range files {
		if strings.HasSuffix(f, "_test.go") {
			continue
		}
		a, err := parser.ParseFile(l.fset, f, nil, 0)
		if err != nil {
			return nil, err
		}
		l.files[name] = append(l.files[name], a)
	}
	c := types.Config{Importer: l}
	p, err := c.Check(path, l.fset, l.files[name], l.info)
	l.packs[name] = p
	return p, err
}

func (l *look) ways(t *testing.T, pack string) map[string]bool {
	if _, err := l.Import("patchbay/" + pack); err != nil {
		t.Fatal(err)
	}
	got := map[string]bool{}
	called := map[ast.Expr]bool{}
	for _, f := range l.files[pack] {
		ast.Inspect(f, func(n ast.Node) bool {
			switch x := n.(type) {
			case *ast.CallExpr:
				called[x.Fun] = true
				l.call(x, got)
			case *ast.SelectorExpr:
				l.selector(x, called[x], got)
			case ast.Expr:
				l.expression(x, got)
			default:
				l.statement(x, got)
			}
			return true
		})
	}
	return got
}

func (l *look) under(e ast.Expr) types.Type {
	if t := l.info.Types[e].Type; t != nil {
		return t.Underlying()
	}
	return nil
}

func (l *look) call(x *ast.CallExpr, got map[string]bool) {
	switch f := x.Fun.(type) {
	case *ast.Ident:
		if b, ok := l.info.Uses[f].(*types.Builtin); ok {
			got[b.Name()] = true
		}
	case *ast.SelectorExpr:
		if o := l.info.Uses[f.Sel]; o != nil && o.Pkg() != nil {
			got[o.Pkg().Path()+"."+o.Name()] = true
		}
	}
}

func (l *look) selector(x *ast.SelectorExpr, called bool, got map[string]bool) {
	if o := l.info.Uses[x.Sel]; o != nil && o.Pkg() != nil && o.Pkg().Path() == "sync" {
		got["sync."+o.Name()] = true
	}
	s := l.info.Selections[x]
	if s == nil {
		return
	}
	got["promoted"] = got["promoted"] || len(s.Index()) > 1
	switch s.Kind() {
	case types.MethodExpr:
		got["method-expression"] = true
	case types.MethodVal:
		got["method-value"] = got["method-value"] || !called
		got["interface-call"] = got["interface-call"] || types.IsInterface(s.Recv())
	}
}

func (l *look) expression(n ast.Expr, got map[string]bool) {
	switch x := n.(type) {
	case *ast.FuncLit:
		got["closure"] = true
	case *ast.MapType:
		got["map"] = true
	case *ast.ArrayType:
		got["array"] = got["array"] || x.Len != nil
	case *ast.Ellipsis:
		got["variadic"] = got["variadic"] || x.Elt != nil
	case *ast.SliceExpr:
		got["three-index"] = got["three-index"] || x.Slice3
	case *ast.InterfaceType:
		got["interface"] = got["interface"] || len(x.Methods.List) > 0
	case *ast.StructType:
		for _, f := range x.Fields.List {
			_, function := l.under(f.Type).(*types.Signature)
			got["function-field"] = got["function-field"] || function
			got["embedding"] = got["embedding"] || len(f.Names) == 0
		}
	case *ast.BinaryExpr:
		_, array := l.under(x.X).(*types.Array)
		got["array-compared"] = got["array-compared"] || array && (x.Op == token.EQL || x.Op == token.NEQ)
	case *ast.IndexExpr:
		if m, ok := l.under(x.X).(*types.Map); ok {
			_, array := m.Key().Underlying().(*types.Array)
			got["array-keys"] = got["array-keys"] || array
		}
	}
}

func (l *look) statement(n ast.Node, got map[string]bool) {
	switch x := n.(type) {
	case *ast.GoStmt:
		got["go"] = true
	case *ast.DeferStmt:
		got["defer"] = true
	case *ast.BranchStmt:
		got["fallthrough"] = got["fallthrough"] || x.Tok == token.FALLTHROUGH
	case *ast.FuncDecl:
		got["generic-function"] = got["generic-function"] || x.Type.TypeParams != nil
	case *ast.RangeStmt:
		switch u := l.under(x.X).(type) {
		case *types.Signature:
			got["range-function"] = true
			two := u.Params().At(0).Type().Underlying().(*types.Signature).Params().Len() == 2
			got["range-function-two"] = got["range-function-two"] || two
		case *types.Basic:
			got["range-string"] = got["range-string"] || u.Info()&types.IsString != 0
			got["range-integer"] = got["range-integer"] || u.Info()&types.IsInteger != 0
		}
	}
}
