package label

import (
	"go/ast"
	"go/parser"
	"go/token"
	"reflect"
	"testing"

	"trunnion/geom"
)

// source is the layer's file.
func source(t *testing.T) *ast.File {
	t.Helper()
	file, err := parser.ParseFile(token.NewFileSet(), "label.go", nil, 0)
	if err != nil {
		t.Fatal(err)
	}
	return file
}

// uses tells if a name stands somewhere in a piece of the file.
func uses(n ast.Node, name string) bool {
	found := false
	ast.Inspect(n, func(n ast.Node) bool {
		if x, ok := n.(*ast.Ident); ok && x.Name == name {
			found = true
		}
		return true
	})
	return found
}

func TestWaysGeometryIsEmbedded(t *testing.T) {
	field, ok := reflect.TypeFor[Label]().FieldByName("Geometry")
	if !ok || !field.Anonymous || field.Type != reflect.TypeFor[geom.Geometry]() {
		t.Error("a label doesn't embed its geometry")
	}
}

// TestWaysGeometryIsPromoted: what a geometry has and answers, a label has and answers as its own; but Good is the label's.
func TestWaysGeometryIsPromoted(t *testing.T) {
	l := fresh(t, 5, 7)
	if l.Members != 5 || l.Stripes != 7 || l.Data() != 3 || l.Blocks() != 21 || l.Sectors() != 107 {
		t.Errorf("the label has %d members, %d stripes, %d data columns, %d blocks, %d sectors", l.Members, l.Stripes, l.Data(), l.Blocks(), l.Sectors())
	}
	l.Epoch = 0
	if l.Good() || !l.Geometry.Good() {
		t.Error("a label is good as its geometry is")
	}
}

// own are the names that a method takes as its receiver's own, by the method's name.
func own(t *testing.T) map[string]map[string]int {
	t.Helper()
	found := map[string]map[string]int{}
	for _, d := range source(t).Decls {
		f, ok := d.(*ast.FuncDecl)
		if !ok || f.Recv == nil || !uses(f.Recv, "Label") {
			continue
		}
		names := map[string]int{}
		ast.Inspect(f.Body, func(n ast.Node) bool {
			s, ok := n.(*ast.SelectorExpr)
			if !ok {
				return true
			}
			if x, ok := s.X.(*ast.Ident); ok && x.Name == f.Recv.List[0].Names[0].Name {
				names[s.Sel.Name]++
			}
			return true
		})
		found[f.Name.Name] = names
	}
	return found
}

func TestWaysWhatIsPromotedIsUsed(t *testing.T) {
	all := own(t)
	for method, names := range map[string][]string{"Good": {"Members", "Stripes"}, "Whole": {"Column"}} {
		for _, name := range names {
			if all[method][name] == 0 {
				t.Errorf("%s doesn't take %s as the label's own", method, name)
			}
		}
	}
	for method, names := range all {
		// Good alone names the geometry: it has the same name as the geometry's.
		if method != "Good" && names["Geometry"] != 0 {
			t.Errorf("%s names the geometry", method)
		}
	}
}

func TestWaysStatesAreNumberedByIota(t *testing.T) {
	for _, d := range source(t).Decls {
		group, ok := d.(*ast.GenDecl)
		if !ok || group.Tok != token.CONST || !uses(group, "InSync") {
			continue
		}
		if len(group.Specs) != 3 {
			t.Errorf("there are %d states", len(group.Specs))
		}
		for i, s := range group.Specs {
			line := s.(*ast.ValueSpec)
			// Only the first line has a value: the others repeat it, each by its own number.
			if i == 0 && (len(line.Values) != 1 || !uses(line.Values[0], "iota")) || i > 0 && len(line.Values) != 0 {
				t.Errorf("the state %s isn't numbered by iota", line.Names[0].Name)
			}
		}
		return
	}
	t.Error("there are no states")
}
