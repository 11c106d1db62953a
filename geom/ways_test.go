package geom

import (
	"go/ast"
	"go/parser"
	"go/token"
	"reflect"
	"testing"

	"trunnion/api"
)

// functions are those that the layer's file declares, by their names.
func functions(t *testing.T) map[string]*ast.FuncDecl {
	t.Helper()
	file, err := parser.ParseFile(token.NewFileSet(), "geom.go", nil, 0)
	if err != nil {
		t.Fatal(err)
	}
	found := map[string]*ast.FuncDecl{}
	for _, d := range file.Decls {
		if f, ok := d.(*ast.FuncDecl); ok {
			found[f.Name.Name] = f
		}
	}
	return found
}

// asked counts the numbers, each with its end, that a function hands to the one that refuses them.
func asked(f *ast.FuncDecl) int {
	count := 0
	ast.Inspect(f, func(n ast.Node) bool {
		call, ok := n.(*ast.CallExpr)
		if !ok {
			return true
		}
		if x, ok := call.Fun.(*ast.SelectorExpr); !ok || x.Sel.Name != "refuse" {
			return true
		}
		for _, arg := range call.Args {
			if pair, ok := arg.(*ast.CompositeLit); ok && len(pair.Elts) == 2 {
				count++
			}
		}
		return true
	})
	return count
}

func TestWaysNumbersAndTheirEndsComeInThroughAVariadicFunction(t *testing.T) {
	if !reflect.TypeOf(Geometry.refuse).IsVariadic() {
		t.Error("the function that refuses numbers isn't variadic")
	}
	all := functions(t)
	for name, want := range map[string]int{"Find": 1, "Block": 2, "Member": 2, "Column": 2, "Row": 1, "Sector": 1, "Touched": 2} {
		if got := asked(all[name]); got != want {
			t.Errorf("%s hands %d numbers with their ends to it, want %d", name, got, want)
		}
	}
}

func TestNumbersAndTheirEnds(t *testing.T) {
	g := Geometry{5, 7}
	for i, x := range []struct {
		asked []below
		e     api.Errno
	}{
		{nil, api.OK},
		{[]below{{0, 1}}, api.OK},
		{[]below{{0, 0}}, api.ErrRange},
		{[]below{{-1, 5}}, api.ErrRange},
		{[]below{{0, -5}}, api.ErrRange},
		{[]below{{4, 5}, {5, 5}}, api.ErrRange},
		{[]below{{5, 5}, {4, 5}}, api.ErrRange},
		{[]below{{4, 5}, {3, 5}, {-1, 5}}, api.ErrRange},
		{[]below{{4, 5}, {3, 5}, {0, 5}}, api.OK},
	} {
		if e := g.refuse(x.asked...); e != x.e {
			t.Errorf("%d: %v, want %v", i, e, x.e)
		}
		if e := (Geometry{}).refuse(x.asked...); e != api.ErrForm {
			t.Errorf("%d: of no good geometry %v", i, e)
		}
	}
}

func TestWaysMembersAreGoneThroughByARangeOverAnInteger(t *testing.T) {
	found := 0
	ast.Inspect(functions(t)["Row"], func(n ast.Node) bool {
		if loop, ok := n.(*ast.RangeStmt); ok {
			if x, ok := loop.X.(*ast.SelectorExpr); ok && x.Sel.Name == "Members" {
				found++
			}
		}
		return true
	})
	if found != 1 {
		t.Errorf("a row's members are gone through by %d ranges over their number", found)
	}
	if kind := reflect.TypeOf(Geometry{}.Members).Kind(); kind != reflect.Int {
		t.Errorf("the number of members is a %v", kind)
	}
}
