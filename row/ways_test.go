package row

import (
	"go/ast"
	"go/parser"
	"go/token"
	"reflect"
	"slices"
	"testing"

	"trunnion/api"
	"trunnion/label"
)

// functions are those that the layer's file declares, by their names.
func functions(t *testing.T) map[string]*ast.FuncDecl {
	t.Helper()
	file, err := parser.ParseFile(token.NewFileSet(), "row.go", nil, 0)
	if err != nil {
		t.Fatal(err)
	}
	found := map[string]*ast.FuncDecl{}
	for _, d := range file.Decls {
		if f, ok := d.(*ast.FuncDecl); ok {
			found[f.Name.Name] = f
		}
	}
	return found
}

// TestWaysMap: the columns that are to be written stand in a map, and are asked of it by their numbers; in which order they were put there makes no difference.
func TestWaysMap(t *testing.T) {
	columns := reflect.TypeOf(Writes).In(2)
	if columns.Kind() != reflect.Map || columns.Key().Kind() != reflect.Int || columns.Elem().Kind() != reflect.String {
		t.Errorf("columns stand in a %v", columns)
	}
	asked := false
	ast.Inspect(functions(t)["Writes"], func(n ast.Node) bool {
		if x, ok := n.(*ast.IndexExpr); ok {
			from, ok := x.X.(*ast.Ident)
			asked = asked || ok && from.Name == "columns"
		}
		return true
	})
	if !asked {
		t.Error("Writes doesn't ask the map for its columns")
	}
	l := build(t, 32, 1).l
	first, second := map[int]string{}, map[int]string{}
	for i := range 32 {
		first[i] = full(byte(i))
		second[31-i] = full(byte(31 - i))
	}
	for range 20 {
		a, e := Writes(l, 0, first)
		b, f := Writes(l, 0, second)
		if e != api.OK || f != api.OK || len(a) != 32 || !slices.Equal(a, b) {
			t.Fatalf("%v, %d; %v, %d", a, e, b, f)
		}
		for i := range a {
			if a[i].Data != full(byte(i)) {
				t.Fatalf("the column %q stands at %d", a[i].Data, i)
			}
		}
	}
}

// membersOfLabel tells if an expression is l.Members, the number of a label's columns.
func membersOfLabel(x ast.Expr) bool {
	s, ok := x.(*ast.SelectorExpr)
	return ok && s.Sel.Name == "Members"
}

// TestWaysRangeInteger: columns are gone through by a range over their number, where they are looked at and where they are read.
func TestWaysRangeInteger(t *testing.T) {
	if kind := reflect.TypeFor[label.Label]().Field(0).Type.Field(0).Type.Kind(); kind != reflect.Int {
		t.Fatalf("Members is no integer but a %v", kind)
	}
	all := functions(t)
	for _, name := range []string{"Lost", "readOthers"} {
		found := false
		ast.Inspect(all[name], func(n ast.Node) bool {
			r, ok := n.(*ast.RangeStmt)
			found = found || ok && membersOfLabel(r.X)
			return true
		})
		if !found {
			t.Errorf("%s doesn't go through columns by a range over an integer", name)
		}
	}
	for name, f := range all {
		ast.Inspect(f, func(n ast.Node) bool {
			if _, ok := n.(*ast.ForStmt); ok {
				t.Errorf("%s counts by hand", name)
			}
			return true
		})
	}
}
