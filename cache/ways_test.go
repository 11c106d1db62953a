package cache

import (
	"go/ast"
	"go/parser"
	"go/token"
	"maps"
	"reflect"
	"slices"
	"testing"

	"trunnion/api"
)

// methods are those that the layer's file declares of a cache, by their names.
func methods(t *testing.T) map[string]*ast.FuncDecl {
	t.Helper()
	file, err := parser.ParseFile(token.NewFileSet(), "cache.go", nil, 0)
	if err != nil {
		t.Fatal(err)
	}
	found := map[string]*ast.FuncDecl{}
	for _, d := range file.Decls {
		if f, ok := d.(*ast.FuncDecl); ok && f.Recv != nil {
			if of, ok := f.Recv.List[0].Type.(*ast.StarExpr); ok && of.X.(*ast.Ident).Name == "Cache" {
				found[f.Name.Name] = f
			}
		}
	}
	return found
}

// calls are those that a method makes of a function or of a method by its name.
func calls(f *ast.FuncDecl, name string) []*ast.CallExpr {
	var found []*ast.CallExpr
	ast.Inspect(f.Body, func(n ast.Node) bool {
		call, ok := n.(*ast.CallExpr)
		if !ok {
			return true
		}
		switch x := call.Fun.(type) {
		case *ast.Ident:
			ok = x.Name == name
		case *ast.SelectorExpr:
			ok = x.Sel.Name == name
		}
		if ok {
			found = append(found, call)
		}
		return true
	})
	return found
}

// stands holds which stripes stand in the map.
func stands(t *testing.T, c *Cache, want ...int) {
	t.Helper()
	if got := slices.Sorted(maps.Keys(c.stripes)); !slices.Equal(got, want) {
		t.Errorf("in the map stand %v, want %v", got, want)
	}
}

// TestWaysStripesStandInAMap: those that are there, and no others; and the map alone says what is there.
func TestWaysStripesStandInAMap(t *testing.T) {
	field, ok := reflect.TypeFor[Cache]().FieldByName("stripes")
	if !ok || field.Type.Kind() != reflect.Map || field.Type.Key().Kind() != reflect.Int {
		t.Fatal("stripes don't stand in a map")
	}
	c := filled(t, 3, 1, 5, 9)
	stands(t, c, 5, 9)
	puts(t, c, 0, 2, full('x'), api.OK)
	stands(t, c, 0, 5, 9)
	c.Get(7, 0)
	c.Done(8)
	c.Fill(64, 0, full('x'))
	c.Put(6, 0, "x")
	stands(t, c, 0, 5, 9)
	clear(c.stripes)
	there(t, c, nil, nil)
}

// TestWaysStripesAreDeleted: out of the map, as another one takes the place, and by a Drop.
func TestWaysStripesAreDeleted(t *testing.T) {
	all := methods(t)
	found := calls(all["forget"], "delete")
	if len(found) != 1 || len(found[0].Args) != 2 {
		t.Fatalf("forget deletes %d times, want once", len(found))
	}
	of, chosen := found[0].Args[0].(*ast.SelectorExpr)
	key, plain := found[0].Args[1].(*ast.Ident)
	if !chosen || !plain || of.Sel.Name != "stripes" || key.Name != "stripe" {
		t.Error("forget doesn't delete the stripe out of the map")
	}
	for _, name := range []string{"place", "Drop"} {
		if len(calls(all[name], "forget")) != 1 {
			t.Errorf("%s doesn't have its stripe deleted", name)
		}
	}
	c := filled(t, 3, 1, 1, 2, 3)
	fills(t, c, 4, 0, full('x'), api.OK)
	stands(t, c, 2, 3, 4)
	c.Drop(3)
	stands(t, c, 2, 4)
	puts(t, c, 2, 0, full('x'), api.OK)
	c.Drop(2)
	stands(t, c, 2, 4)
}

// TestMapAndTurnAreOne: what stands in the map are the turn's keys.
func TestMapAndTurnAreOne(t *testing.T) {
	c := filled(t, 3, 1, 1, 2, 3)
	fills(t, c, 4, 0, full('x'), api.OK)
	c.Drop(3)
	c.Get(2, 0)
	if got := c.turn.Order(); !slices.Equal(got, []int{4, 2}) {
		t.Errorf("the turn's keys are %v, want 4, 2", got)
	}
	stands(t, c, 2, 4)
}
