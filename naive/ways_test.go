package naive

import (
	"go/ast"
	"go/importer"
	"go/parser"
	"go/token"
	"go/types"
	"reflect"
	"testing"

	"trunnion/api"
)

// checked is the layer's file, with the types of what stands in it.
func checked(t *testing.T) (map[string]*ast.FuncDecl, *types.Info) {
	t.Helper()
	set := token.NewFileSet()
	file, err := parser.ParseFile(set, "naive.go", nil, 0)
	if err != nil {
		t.Fatal(err)
	}
	info := &types.Info{Types: map[ast.Expr]types.TypeAndValue{}}
	config := types.Config{Importer: importer.ForCompiler(set, "source", nil)}
	if _, err := config.Check("trunnion/naive", set, []*ast.File{file}, info); err != nil {
		t.Fatal(err)
	}
	found := map[string]*ast.FuncDecl{}
	for _, d := range file.Decls {
		if f, ok := d.(*ast.FuncDecl); ok {
			found[f.Name.Name] = f
		}
	}
	return found, info
}

// TestWaysMap: a change's columns stand in a map, by their numbers.
func TestWaysMap(t *testing.T) {
	f, ok := reflect.TypeFor[Change]().FieldByName("Columns")
	if !ok || f.Type.Kind() != reflect.Map || f.Type.Key().Kind() != reflect.Int || f.Type.Elem().Kind() != reflect.String {
		t.Errorf("columns stand in a %v", f.Type)
	}
}

// TestWaysMapIsUsed: Store hands a change's map on, and a Write's change has one.
func TestWaysMapIsUsed(t *testing.T) {
	all, info := checked(t)
	handed, made := false, false
	ast.Inspect(all["Store"], func(n ast.Node) bool {
		c, ok := n.(*ast.CallExpr)
		if !ok {
			return true
		}
		for _, x := range c.Args {
			_, isMap := info.Types[x].Type.Underlying().(*types.Map)
			handed = handed || isMap
		}
		return true
	})
	ast.Inspect(all["with"], func(n ast.Node) bool {
		if x, ok := n.(*ast.KeyValueExpr); ok {
			_, isMap := info.Types[x.Value].Type.Underlying().(*types.Map)
			made = made || isMap
		}
		return true
	})
	if !handed || !made {
		t.Errorf("Store hands a map on: %v; a Write's change has a map: %v", handed, made)
	}
}

// TestWaysMapOrder: in which order columns were put into a change makes no difference.
func TestWaysMapOrder(t *testing.T) {
	one, a := filled(t, 32, 1)
	two, b := filled(t, 32, 1)
	rising, falling := map[int]string{}, map[int]string{}
	for i := range 32 {
		rising[i] = full(byte(i))
		falling[31-i] = full(byte(31 - i))
	}
	for range 10 {
		answers(t, "Store", a.Store([]Change{{0, rising}}), api.OK)
		answers(t, "Store", b.Store([]Change{{0, falling}}), api.OK)
		alike(t, "maps", one, two)
	}
	for i := range 32 {
		if s, e := a.Column(0, i); s != full(byte(i)) || e != api.OK {
			t.Errorf("Column(0, %d): %q, %d", i, s, e)
		}
	}
}
