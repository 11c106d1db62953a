package engine

import (
	"go/ast"
	"go/importer"
	"go/parser"
	"go/token"
	"go/types"
	"reflect"
	"slices"
	"testing"

	"trunnion/api"
	"trunnion/naive"
)

// checked is the layer's file, with the types and the choices of what stands in it.
func checked(t *testing.T) (*ast.File, *types.Info) {
	t.Helper()
	set := token.NewFileSet()
	file, err := parser.ParseFile(set, "engine.go", nil, 0)
	if err != nil {
		t.Fatal(err)
	}
	info := &types.Info{Types: map[ast.Expr]types.TypeAndValue{}, Selections: map[*ast.SelectorExpr]*types.Selection{}}
	config := types.Config{Importer: importer.ForCompiler(set, "source", nil)}
	if _, err := config.Check("trunnion/engine", set, []*ast.File{file}, info); err != nil {
		t.Fatal(err)
	}
	return file, info
}

// TestWaysEmbedding: a stripe that was made embeds a change.
func TestWaysEmbedding(t *testing.T) {
	f, ok := reflect.TypeFor[made]().FieldByName("Change")
	if !ok || !f.Anonymous || f.Type != reflect.TypeFor[naive.Change]() {
		t.Error("a stripe that was made doesn't embed a change")
	}
}

// TestWaysPromoted: its stripe and its columns are the change's, asked for as its own.
func TestWaysPromoted(t *testing.T) {
	file, info := checked(t)
	promoted := map[string]bool{}
	ast.Inspect(file, func(n ast.Node) bool {
		x, ok := n.(*ast.SelectorExpr)
		if !ok {
			return true
		}
		if s := info.Selections[x]; s != nil && s.Recv().String() == "trunnion/engine.made" && len(s.Index()) > 1 {
			promoted[x.Sel.Name] = true
		}
		return true
	})
	if !promoted["Stripe"] || !promoted["Columns"] {
		t.Errorf("promoted are %v, want Stripe and Columns", promoted)
	}
}

// TestWaysMethodValues: the cache's calls are handed on as such, to those that know which column a block is, or which ones are wanted.
func TestWaysMethodValues(t *testing.T) {
	file, info := checked(t)
	handed := map[string][]string{}
	ast.Inspect(file, func(n ast.Node) bool {
		call, ok := n.(*ast.CallExpr)
		if !ok || len(call.Args) == 0 {
			return true
		}
		x, ok := call.Args[0].(*ast.SelectorExpr)
		if !ok {
			return true
		}
		s := info.Selections[x]
		if s == nil || s.Kind() != types.MethodVal || s.Recv().String() != "*trunnion/cache.Cache" {
			return true
		}
		name := ""
		switch f := call.Fun.(type) {
		case *ast.Ident:
			name = f.Name
		case *ast.SelectorExpr:
			name = f.Sel.Name
		}
		if !slices.Contains(handed[name], x.Sel.Name) {
			handed[name] = append(handed[name], x.Sel.Name)
		}
		return true
	})
	for _, l := range handed {
		slices.Sort(l)
	}
	if want := map[string][]string{"keep": {"Fill", "Put"}, "gather": {"Get", "Old"}}; !reflect.DeepEqual(handed, want) {
		t.Errorf("of the cache's calls are handed on %v, want %v", handed, want)
	}
}

// TestWaysMethodValuesAreCalled: what is handed on is what is called.
func TestWaysMethodValuesAreCalled(t *testing.T) {
	_, x := filled(t, 5, 8, plain)
	var at [][2]int
	e := x.keep(func(stripe, column int, s string) api.Errno {
		at = append(at, [2]int{stripe, column})
		return 7
	}, 10, "s")
	if e != 7 || !slices.Equal(at, [][2]int{{3, 1}}) {
		t.Errorf("keep has called %v, and tells %d", at, e)
	}
}
