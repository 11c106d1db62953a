package repair

import (
	"go/ast"
	"go/parser"
	"go/token"
	"reflect"
	"sync/atomic"
	"testing"
)

// source is the layer's file.
func source(t *testing.T) *ast.File {
	t.Helper()
	file, err := parser.ParseFile(token.NewFileSet(), "repair.go", nil, 0)
	if err != nil {
		t.Fatal(err)
	}
	return file
}

// uses tells if a name stands somewhere in a piece of the file.
func uses(n ast.Node, name string) bool {
	found := false
	ast.Inspect(n, func(n ast.Node) bool {
		if x, ok := n.(*ast.Ident); ok && x.Name == name {
			found = true
		}
		return true
	})
	return found
}

func TestWaysKindsAreNumberedByIota(t *testing.T) {
	for _, d := range source(t).Decls {
		group, ok := d.(*ast.GenDecl)
		if !ok || group.Tok != token.CONST || !uses(group, "Whole") {
			continue
		}
		for i, s := range group.Specs {
			line := s.(*ast.ValueSpec)
			// Only the first line has a value: the others repeat it, each by its own number.
			if i == 0 && (len(line.Values) != 1 || !uses(line.Values[0], "iota")) || i > 0 && len(line.Values) != 0 {
				t.Errorf("the kind %s isn't numbered by iota", line.Names[0].Name)
			}
		}
		return
	}
	t.Error("there are no kinds")
}

func TestWaysRowEmbedsTheFixer(t *testing.T) {
	field, ok := reflect.TypeFor[row]().FieldByName("Fixer")
	if !ok || !field.Anonymous || field.Type != reflect.TypeFor[*Fixer]() {
		t.Error("a row under way doesn't embed the fixer")
	}
}

func TestWaysCountsAreAtomic(t *testing.T) {
	field, ok := reflect.TypeFor[Fixer]().FieldByName("done")
	if !ok || field.Type != reflect.TypeFor[[Kinds]atomic.Int64]() {
		t.Error("a fixer's counts aren't an atomic number for each kind")
	}
}

// promoted are the fixer's fields that methods of a row take as the row's own.
func promoted(t *testing.T) map[string]int {
	t.Helper()
	found := map[string]int{}
	for _, d := range source(t).Decls {
		f, ok := d.(*ast.FuncDecl)
		if !ok || f.Recv == nil || !uses(f.Recv, "row") {
			continue
		}
		ast.Inspect(f.Body, func(n ast.Node) bool {
			s, ok := n.(*ast.SelectorExpr)
			if !ok {
				return true
			}
			own, ok := s.X.(*ast.Ident)
			if ok && own.Name == f.Recv.List[0].Names[0].Name {
				found[s.Sel.Name]++
			}
			return true
		})
	}
	return found
}

func TestWaysRowUsesWhatTheFixerPromotes(t *testing.T) {
	found := promoted(t)
	for _, name := range []string{"field", "done"} {
		if found[name] == 0 {
			t.Errorf("no method of a row takes %s of the fixer as its own", name)
		}
	}
}
