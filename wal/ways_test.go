package wal

import (
	"go/ast"
	"go/parser"
	"go/token"
	"reflect"
	"slices"
	"testing"

	"trunnion/bay"
)

// functions are those that the layer's file declares, by their names.
func functions(t *testing.T) map[string]*ast.FuncDecl {
	t.Helper()
	file, err := parser.ParseFile(token.NewFileSet(), "wal.go", nil, 0)
	if err != nil {
		t.Fatal(err)
	}
	found := map[string]*ast.FuncDecl{}
	for _, d := range file.Decls {
		if f, ok := d.(*ast.FuncDecl); ok {
			found[f.Name.Name] = f
		}
	}
	return found
}

// calls tells if a function calls another one, or a method, by its name.
func calls(f *ast.FuncDecl, name string) bool {
	found := false
	ast.Inspect(f.Body, func(n ast.Node) bool {
		if c, ok := n.(*ast.CallExpr); ok {
			switch x := c.Fun.(type) {
			case *ast.Ident:
				found = found || x.Name == name
			case *ast.SelectorExpr:
				found = found || x.Sel.Name == name
			}
		}
		return true
	})
	return found
}

// TestWaysMap: members are the keys of a map, whose values are neither bools nor texts.
func TestWaysMap(t *testing.T) {
	who := reflect.TypeFor[members]()
	if who.Kind() != reflect.Map || who.Key().Kind() != reflect.Int || who.Elem().Kind() != reflect.Struct {
		t.Errorf("who is live stands in a %v", who)
	}
	b := bay.New(32, 1)
	for _, i := range []int{0, 7, 30} {
		b.Member(i).Fail()
	}
	found := live(b)
	if len(found) != 29 || !slices.Equal(found.rising(), b.Live()) {
		t.Errorf("%v are live", found.rising())
	}
	if _, ok := found[7]; ok {
		t.Error("7 is live")
	}
	if _, ok := found[8]; !ok {
		t.Error("8 isn't live")
	}
}

// TestWaysMapIsAsked: both calls that need the live members take that map, no other function asks the bay for them, and writes are looked up in it.
func TestWaysMapIsAsked(t *testing.T) {
	all := functions(t)
	for _, name := range []string{"Commit", "Recover"} {
		if !calls(all[name], "live") {
			t.Errorf("%s doesn't find who is live", name)
		}
	}
	for name, f := range all {
		if name != "live" && calls(f, "Live") {
			t.Errorf("%s asks the bay who is live", name)
		}
	}
	for _, name := range []string{"spread", "newest", "batch"} {
		if !calls(all[name], "rising") {
			t.Errorf("%s doesn't go through the map's members", name)
		}
	}
	asked := false
	ast.Inspect(all["do"], func(n ast.Node) bool {
		if x, ok := n.(*ast.IndexExpr); ok {
			who, ok := x.X.(*ast.Ident)
			asked = asked || ok && who.Name == "who"
		}
		return true
	})
	if !asked {
		t.Error("a write's member isn't looked up in the map")
	}
}
