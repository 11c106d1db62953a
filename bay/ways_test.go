package bay

import (
	"go/ast"
	"go/parser"
	"go/token"
	"reflect"
	"strings"
	"testing"
)

// methods are those that the layer's file declares of a type, by their names.
func methods(t *testing.T, of string) map[string]*ast.FuncDecl {
	t.Helper()
	file, err := parser.ParseFile(token.NewFileSet(), "bay.go", nil, 0)
	if err != nil {
		t.Fatal(err)
	}
	found := map[string]*ast.FuncDecl{}
	for _, d := range file.Decls {
		f, ok := d.(*ast.FuncDecl)
		if !ok || f.Recv == nil {
			continue
		}
		if star, ok := f.Recv.List[0].Type.(*ast.StarExpr); ok && star.X.(*ast.Ident).Name == of {
			found[f.Name.Name] = f
		}
	}
	return found
}

// own tells if a method takes a name as its receiver's own.
func own(f *ast.FuncDecl, name string) bool {
	found := false
	ast.Inspect(f.Body, func(n ast.Node) bool {
		if s, ok := n.(*ast.SelectorExpr); ok && s.Sel.Name == name {
			x, ok := s.X.(*ast.Ident)
			found = found || ok && x.Name == f.Recv.List[0].Names[0].Name
		}
		return true
	})
	return found
}

func TestWaysPowerIsEmbeddedAndAtomic(t *testing.T) {
	field, ok := reflect.TypeFor[Bay]().FieldByName("power")
	if !ok || !field.Anonymous || field.Type != reflect.TypeFor[power]() {
		t.Fatal("a bay doesn't embed its power")
	}
	for i := range field.Type.NumField() {
		if f := field.Type.Field(i); f.Type.PkgPath() != "sync/atomic" {
			t.Errorf("the power's %s is a %v", f.Name, f.Type)
		}
	}
}

// TestWaysPowerIsPromoted: the bay's methods use the power as the bay's own, and none names it.
func TestWaysPowerIsPromoted(t *testing.T) {
	all := methods(t, "Bay")
	for method, part := range map[string]string{"step": "take", "Read": "out", "Off": "out", "Cut": "set", "Crash": "restore", "Steps": "made"} {
		if !own(all[method], part) {
			t.Errorf("%s doesn't take %s as the bay's own", method, part)
		}
	}
	for name, f := range all {
		if own(f, "power") {
			t.Errorf("%s names the power", name)
		}
	}
	for _, name := range []string{"Write", "Flush"} {
		if !own(all[name], "step") {
			t.Errorf("%s makes no step of the bay's power", name)
		}
	}
}

// TestWaysPowerIsNotHandedOut: what is embedded adds no call to those of the chapter.
func TestWaysPowerIsNotHandedOut(t *testing.T) {
	bay := reflect.TypeFor[*Bay]()
	var names []string
	for i := range bay.NumMethod() {
		names = append(names, bay.Method(i).Name)
	}
	if got := strings.Join(names, " "); got != "Crash Cut Flush Live Member Off Read Size Steps Write" {
		t.Errorf("the calls are %s", got)
	}
}

func TestWaysWhatIsKeptComesInThroughAVariadicFunction(t *testing.T) {
	if !reflect.TypeOf((*Bay).Crash).IsVariadic() {
		t.Error("Crash isn't variadic")
	}
}
