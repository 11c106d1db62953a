package member

import (
	"go/ast"
	"go/parser"
	"go/token"
	"reflect"
	"sync/atomic"
	"testing"
)

// functions are those that the layer's file declares, by their names.
func functions(t *testing.T) map[string]*ast.FuncDecl {
	t.Helper()
	file, err := parser.ParseFile(token.NewFileSet(), "member.go", nil, 0)
	if err != nil {
		t.Fatal(err)
	}
	found := map[string]*ast.FuncDecl{}
	for _, d := range file.Decls {
		if f, ok := d.(*ast.FuncDecl); ok {
			found[f.Name.Name] = f
		}
	}
	return found
}

// calls are those of a name that a function makes, of a method or of the language's own.
func calls(f *ast.FuncDecl, name string) []*ast.CallExpr {
	var found []*ast.CallExpr
	ast.Inspect(f, func(n ast.Node) bool {
		call, ok := n.(*ast.CallExpr)
		if !ok {
			return true
		}
		switch x := call.Fun.(type) {
		case *ast.Ident:
			if x.Name == name {
				found = append(found, call)
			}
		case *ast.SelectorExpr:
			if x.Sel.Name == name {
				found = append(found, call)
			}
		}
		return true
	})
	return found
}

// own tells if a method takes a name as its receiver's own.
func own(f *ast.FuncDecl, name string) bool {
	found := false
	ast.Inspect(f.Body, func(n ast.Node) bool {
		if s, ok := n.(*ast.SelectorExpr); ok && s.Sel.Name == name {
			x, ok := s.X.(*ast.Ident)
			found = found || ok && x.Name == f.Recv.List[0].Names[0].Name
		}
		return true
	})
	return found
}

func TestWaysCountsAreEmbeddedAndAtomic(t *testing.T) {
	field, ok := reflect.TypeFor[Member]().FieldByName("counts")
	if !ok || !field.Anonymous || field.Type != reflect.TypeFor[counts]() {
		t.Fatal("a member doesn't embed its counts")
	}
	for i := range field.Type.NumField() {
		if f := field.Type.Field(i); f.Type != reflect.TypeFor[atomic.Int64]() {
			t.Errorf("the count %s is a %v", f.Name, f.Type)
		}
	}
	if all := reflect.TypeFor[Counts]().NumField(); field.Type.NumField() != all {
		t.Errorf("%d counts are atomic, of %d that are told", field.Type.NumField(), all)
	}
}

func TestWaysCountsArePromoted(t *testing.T) {
	all := functions(t)
	for method, count := range map[string]string{"Read": "reads", "Write": "writes", "Flush": "flushes", "Replace": "replaced", "Counts": "told"} {
		if !own(all[method], count) {
			t.Errorf("%s doesn't take %s as the member's own", method, count)
		}
	}
}

func TestWaysSectorsAreMovedByCopy(t *testing.T) {
	all := functions(t)
	for _, name := range []string{"Write", "settle", "Crash", "Rot"} {
		if len(calls(all[name], "copy")) == 0 {
			t.Errorf("%s doesn't move sectors by copy", name)
		}
	}
}

func TestWaysWhatIsKeptComesInThroughAVariadicFunction(t *testing.T) {
	if !reflect.TypeOf((*Member).Crash).IsVariadic() {
		t.Error("Crash isn't variadic")
	}
}

func TestWaysWritesAreTakenOutByAClosure(t *testing.T) {
	all := functions(t)
	for _, name := range []string{"Crash", "Rot"} {
		taken := calls(all[name], "takeOut")
		if len(taken) != 1 {
			t.Errorf("%s takes writes out at %d places", name, len(taken))
			continue
		}
		if _, ok := taken[0].Args[0].(*ast.FuncLit); !ok {
			t.Errorf("%s doesn't take writes out by a closure", name)
		}
	}
}
