package marks

import (
	"go/ast"
	"go/parser"
	"go/token"
	"reflect"
	"testing"
)

// functions are those that the layer's file declares, by their names.
func functions(t *testing.T) map[string]*ast.FuncDecl {
	t.Helper()
	file, err := parser.ParseFile(token.NewFileSet(), "marks.go", nil, 0)
	if err != nil {
		t.Fatal(err)
	}
	found := map[string]*ast.FuncDecl{}
	for _, d := range file.Decls {
		if f, ok := d.(*ast.FuncDecl); ok {
			found[f.Name.Name] = f
		}
	}
	return found
}

func TestWaysSetIsAnArray(t *testing.T) {
	if kind := reflect.TypeFor[Set](); kind.Kind() != reflect.Array {
		t.Errorf("a set is a %v", kind.Kind())
	}
}

// isSet tells if an expression is a set written out.
func isSet(e ast.Expr) bool {
	literal, ok := ast.Unparen(e).(*ast.CompositeLit)
	if !ok {
		return false
	}
	name, ok := literal.Type.(*ast.Ident)
	return ok && name.Name == "Set"
}

func TestWaysSetIsComparedAsOne(t *testing.T) {
	compared := 0
	ast.Inspect(functions(t)["Empty"], func(n ast.Node) bool {
		if x, ok := n.(*ast.BinaryExpr); ok && x.Op == token.EQL && isSet(x.Y) {
			compared++
		}
		return true
	})
	if compared != 1 {
		t.Errorf("Empty compares a whole set %d times", compared)
	}
}

func TestWaysWordsArePutTogetherByClosure(t *testing.T) {
	all := functions(t)
	for _, name := range []string{"Or", "And", "Less"} {
		handed := 0
		ast.Inspect(all[name], func(n ast.Node) bool {
			call, ok := n.(*ast.CallExpr)
			if !ok {
				return true
			}
			for _, arg := range call.Args {
				if _, ok := arg.(*ast.FuncLit); ok {
					handed++
				}
			}
			return true
		})
		if handed != 1 {
			t.Errorf("%s hands on %d closures", name, handed)
		}
	}
}
