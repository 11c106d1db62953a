package turn

import (
	"go/ast"
	"go/parser"
	"go/token"
	"maps"
	"reflect"
	"slices"
	"testing"
)

// methods are those that the layer's file declares of a turn, by their names.
func methods(t *testing.T) map[string]*ast.FuncDecl {
	t.Helper()
	file, err := parser.ParseFile(token.NewFileSet(), "turn.go", nil, 0)
	if err != nil {
		t.Fatal(err)
	}
	found := map[string]*ast.FuncDecl{}
	for _, d := range file.Decls {
		if f, ok := d.(*ast.FuncDecl); ok && f.Recv != nil {
			if of, ok := f.Recv.List[0].Type.(*ast.StarExpr); ok && of.X.(*ast.Ident).Name == "Turn" {
				found[f.Name.Name] = f
			}
		}
	}
	return found
}

// deletes tells how often a method deletes its key out of the turn's map.
func deletes(f *ast.FuncDecl) int {
	n := 0
	ast.Inspect(f.Body, func(x ast.Node) bool {
		call, ok := x.(*ast.CallExpr)
		if !ok || len(call.Args) != 2 {
			return true
		}
		name, ok := call.Fun.(*ast.Ident)
		of, chosen := call.Args[0].(*ast.SelectorExpr)
		key, plain := call.Args[1].(*ast.Ident)
		if ok && chosen && plain && name.Name == "delete" && of.Sel.Name == "pinned" && key.Name == "key" {
			n++
		}
		return true
	})
	return n
}

// stands holds which keys stand in the map.
func stands(t *testing.T, x *Turn, want ...int) {
	t.Helper()
	if got := slices.Sorted(maps.Keys(x.pinned)); !slices.Equal(got, want) {
		t.Errorf("in the map stand %v, want %v", got, want)
	}
}

// TestWaysPinnedKeysStandInAMap: those that are there and pinned, and no others; and the map alone says what is pinned.
func TestWaysPinnedKeysStandInAMap(t *testing.T) {
	field, ok := reflect.TypeFor[Turn]().FieldByName("pinned")
	if !ok || field.Type.Kind() != reflect.Map || field.Type.Key().Kind() != reflect.Int {
		t.Fatal("pinned keys don't stand in a map")
	}
	x := filled(t, 5, 2, 1, 2, 3, 4)
	stands(t, x)
	pins(t, x, true, 3, 1, 3)
	x.Pin(9, true)
	stands(t, x, 1, 3)
	touches(t, x, 1, 3, 2)
	stands(t, x, 1, 3)
	x.Add(1)
	stands(t, x, 1, 3)
	clear(x.pinned)
	victims(t, x, 4, 1, 3, 2)
}

// TestWaysPinnedKeysAreDeleted: by a Pin that ends it, and by a Drop.
func TestWaysPinnedKeysAreDeleted(t *testing.T) {
	all := methods(t)
	for _, name := range []string{"Pin", "Drop"} {
		if all[name] == nil {
			t.Fatalf("there is no %s", name)
		}
		if deletes(all[name]) != 1 {
			t.Errorf("%s doesn't delete the key out of the map", name)
		}
	}
	x := filled(t, 5, 2, 1, 2, 3, 4)
	touches(t, x, 2, 3)
	pins(t, x, true, 1, 2, 3, 4)
	stands(t, x, 1, 2, 3, 4)
	pins(t, x, false, 4, 3, 3)
	stands(t, x, 1, 2)
	x.Drop(2)
	x.Drop(9)
	stands(t, x, 1)
	x.Drop(1)
	stands(t, x)
}
