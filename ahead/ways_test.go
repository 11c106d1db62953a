package ahead

import (
	"go/ast"
	"go/parser"
	"go/token"
	"reflect"
	"testing"
)

// source are the functions and methods that the layer's file declares, by their names.
func source(t *testing.T) map[string]*ast.FuncDecl {
	t.Helper()
	file, err := parser.ParseFile(token.NewFileSet(), "ahead.go", nil, 0)
	if err != nil {
		t.Fatal(err)
	}
	found := map[string]*ast.FuncDecl{}
	for _, d := range file.Decls {
		if f, ok := d.(*ast.FuncDecl); ok {
			found[f.Name.Name] = f
		}
	}
	return found
}

// names tells if a name stands somewhere in a piece of the file.
func names(n ast.Node, name string) bool {
	found := false
	ast.Inspect(n, func(n ast.Node) bool {
		if x, ok := n.(*ast.Ident); ok && x.Name == name {
			found = true
		}
		return true
	})
	return found
}

// own tells if a method takes a name as its receiver's own.
func own(f *ast.FuncDecl, name string) bool {
	found := false
	ast.Inspect(f.Body, func(n ast.Node) bool {
		s, ok := n.(*ast.SelectorExpr)
		if !ok || s.Sel.Name != name {
			return true
		}
		if x, ok := s.X.(*ast.Ident); ok && x.Name == f.Recv.List[0].Names[0].Name {
			found = true
		}
		return true
	})
	return found
}

// TestWaysHowBlocksAreAskedForIsEmbedded: and all that changes with a Note is in it.
func TestWaysHowBlocksAreAskedForIsEmbedded(t *testing.T) {
	field, ok := reflect.TypeFor[Planner]().FieldByName("asked")
	if !ok || !field.Anonymous || field.Type != reflect.TypeFor[asked]() {
		t.Fatal("a planner doesn't embed how blocks are asked for")
	}
	was, p := *made(t, 100, 3, 8), made(t, 100, 3, 8)
	p.Note(10)
	p.Note(11)
	if p.asked == was.asked {
		t.Error("how blocks are asked for isn't what a Note changes")
	}
	p.asked = was.asked
	if *p != was {
		t.Error("a Note changes more than how blocks are asked for")
	}
}

// TestWaysWhatIsEmbeddedIsPromoted: a planner takes it as its own, and names nowhere what is embedded.
func TestWaysWhatIsEmbeddedIsPromoted(t *testing.T) {
	all := source(t)
	for method, parts := range map[string][]string{
		"Note": {"ask", "far", "widen", "run", "end"}, "view": {"next", "window", "end"},
		"Run": {"run"}, "Window": {"window"}, "Reset": {"begin"},
	} {
		if all[method] == nil {
			t.Fatalf("there is no %s", method)
		}
		for _, part := range parts {
			if !own(all[method], part) {
				t.Errorf("%s doesn't take %s as the planner's own", method, part)
			}
		}
	}
	for name, f := range all {
		if f.Recv != nil && names(f.Recv, "Planner") && names(f.Body, "asked") {
			t.Errorf("%s names what is embedded", name)
		}
	}
}

// TestWaysSizesAreLookedAtInAnArray: New goes through an array that has all three sizes, and refuses none elsewhere.
func TestWaysSizesAreLookedAtInAnArray(t *testing.T) {
	looked := 0
	ast.Inspect(source(t)["New"].Body, func(n ast.Node) bool {
		switch x := n.(type) {
		case *ast.RangeStmt:
			sizes, ok := x.X.(*ast.CompositeLit)
			if !ok {
				t.Error("New goes through what isn't written out there")
				return false
			}
			if of, ok := sizes.Type.(*ast.ArrayType); !ok || of.Len == nil {
				t.Error("New doesn't look at the sizes in an array")
			}
			if len(sizes.Elts) != 3 {
				t.Fatalf("New looks at %d sizes", len(sizes.Elts))
			}
			for i, name := range []string{"blocks", "row", "most"} {
				if !names(sizes.Elts[i], name) {
					t.Errorf("New doesn't look at %s in the array", name)
				}
			}
			looked++
			return false
		case *ast.IfStmt:
			t.Error("New looks at something outside of the array")
		}
		return true
	})
	if looked != 1 {
		t.Errorf("New goes through sizes %d times", looked)
	}
}
