package tally

import (
	"go/ast"
	"go/parser"
	"go/token"
	"reflect"
	"sync/atomic"
	"testing"
)

// source is the layer's file.
func source(t *testing.T) *ast.File {
	t.Helper()
	file, err := parser.ParseFile(token.NewFileSet(), "tally.go", nil, 0)
	if err != nil {
		t.Fatal(err)
	}
	return file
}

// methods are those that the layer's file declares of a pointer to a type, by their names.
func methods(t *testing.T, of string) map[string]*ast.FuncDecl {
	t.Helper()
	found := map[string]*ast.FuncDecl{}
	for _, d := range source(t).Decls {
		f, ok := d.(*ast.FuncDecl)
		if !ok || f.Recv == nil {
			continue
		}
		if star, ok := f.Recv.List[0].Type.(*ast.StarExpr); ok && star.X.(*ast.Ident).Name == of {
			found[f.Name.Name] = f
		}
	}
	return found
}

// selects tells if a name is taken of something in a piece of the file.
func selects(n ast.Node, name string) bool {
	found := false
	ast.Inspect(n, func(n ast.Node) bool {
		if s, ok := n.(*ast.SelectorExpr); ok && s.Sel.Name == name {
			found = true
		}
		return true
	})
	return found
}

// stands tells if a name stands somewhere in a piece of the file.
func stands(n ast.Node, name string) bool {
	found := false
	ast.Inspect(n, func(n ast.Node) bool {
		if x, ok := n.(*ast.Ident); ok && x.Name == name {
			found = true
		}
		return true
	})
	return found
}

func TestWaysACountEmbedsAnAtomicNumber(t *testing.T) {
	of := reflect.TypeFor[count]()
	if of.NumField() != 1 || !of.Field(0).Anonymous || of.Field(0).Type != reflect.TypeFor[atomic.Int64]() {
		t.Error("a count isn't an atomic number that is embedded")
	}
}

// TestWaysAllThatIsKeptAreCounts: nothing of a tally is a number that isn't atomic.
func TestWaysAllThatIsKeptAreCounts(t *testing.T) {
	of := reflect.TypeFor[Tally]()
	for i := range of.NumField() {
		f := of.Field(i)
		kept := f.Type
		if kept.Kind() == reflect.Array {
			kept = kept.Elem()
		}
		if kept != reflect.TypeFor[count]() {
			t.Errorf("the tally's %s is a %v", f.Name, f.Type)
		}
	}
}

// TestWaysTheNumberIsPromoted: what a count's number does is taken as the count's own, and the number is named nowhere.
func TestWaysTheNumberIsPromoted(t *testing.T) {
	tallies, counts := methods(t, "Tally"), methods(t, "count")
	for _, x := range []struct {
		of         map[string]*ast.FuncDecl
		name, part string
	}{
		{counts, "more", "CompareAndSwap"}, {counts, "reach", "CompareAndSwap"},
		{tallies, "Get", "Load"}, {tallies, "Note", "Add"}, {tallies, "Bars", "Load"}, {tallies, "Most", "Load"}, {tallies, "Reset", "Store"},
	} {
		if method := x.of[x.name]; method == nil || !selects(method, x.part) {
			t.Errorf("%s doesn't take %s as a count's own", x.name, x.part)
		}
	}
	for _, all := range []map[string]*ast.FuncDecl{tallies, counts} {
		for name, method := range all {
			if stands(method.Body, "Int64") {
				t.Errorf("%s names the number that is embedded", name)
			}
		}
	}
}

func TestWaysKindsAreNumberedByIota(t *testing.T) {
	for _, d := range source(t).Decls {
		group, ok := d.(*ast.GenDecl)
		if !ok || group.Tok != token.CONST || !stands(group, "Reads") {
			continue
		}
		for i, s := range group.Specs {
			line := s.(*ast.ValueSpec)
			// Only the first line has a value: the others repeat it, each by its own number.
			if i == 0 && (len(line.Values) != 1 || !stands(line.Values[0], "iota")) || i > 0 && len(line.Values) != 0 {
				t.Errorf("the kind %s isn't numbered by iota", line.Names[0].Name)
			}
		}
		return
	}
	t.Error("there are no kinds")
}

func TestWaysBarsAreCutOffByAThreeIndexExpression(t *testing.T) {
	told := 0
	ast.Inspect(methods(t, "Tally")["Bars"].Body, func(n ast.Node) bool {
		back, ok := n.(*ast.ReturnStmt)
		if !ok {
			return true
		}
		if cut, ok := back.Results[0].(*ast.SliceExpr); ok && cut.Slice3 {
			told++
		} else if x, ok := back.Results[0].(*ast.Ident); !ok || x.Name != "nil" {
			t.Error("Bars tells a list that isn't cut off by a three-index expression")
		}
		return true
	})
	if told != 1 {
		t.Errorf("Bars cuts off the bars that are told at %d places", told)
	}
}
