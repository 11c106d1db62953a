package syndrome

import (
	"go/ast"
	"go/parser"
	"go/token"
	"testing"
)

// functions are those that the layer's file declares, by their names.
func functions(t *testing.T) map[string]*ast.FuncDecl {
	t.Helper()
	file, err := parser.ParseFile(token.NewFileSet(), "syndrome.go", nil, 0)
	if err != nil {
		t.Fatal(err)
	}
	found := map[string]*ast.FuncDecl{}
	for _, d := range file.Decls {
		if f, ok := d.(*ast.FuncDecl); ok {
			found[f.Name.Name] = f
		}
	}
	return found
}

// reached are the functions of the file that a function calls, and itself.
func reached(all map[string]*ast.FuncDecl, name string) map[string]*ast.FuncDecl {
	found, work := map[string]*ast.FuncDecl{}, []string{name}
	for len(work) > 0 {
		name, work = work[0], work[1:]
		if all[name] == nil || found[name] != nil {
			continue
		}
		found[name] = all[name]
		ast.Inspect(all[name].Body, func(n ast.Node) bool {
			if call, ok := n.(*ast.CallExpr); ok {
				if f, ok := call.Fun.(*ast.Ident); ok {
					work = append(work, f.Name)
				}
			}
			return true
		})
	}
	return found
}

// ranges are what a function, or one that it calls, ranges over.
func ranges(t *testing.T, name string) []ast.Expr {
	t.Helper()
	var found []ast.Expr
	for _, f := range reached(functions(t), name) {
		ast.Inspect(f.Body, func(n ast.Node) bool {
			if r, ok := n.(*ast.RangeStmt); ok {
				found = append(found, r.X)
			}
			return true
		})
	}
	return found
}

// backward tells if an expression is the library's function that goes through a list from its end.
func backward(x ast.Expr) bool {
	call, ok := x.(*ast.CallExpr)
	if !ok {
		return false
	}
	f, ok := call.Fun.(*ast.SelectorExpr)
	if !ok {
		return false
	}
	from, ok := f.X.(*ast.Ident)
	return ok && from.Name == "slices" && f.Sel.Name == "Backward"
}

func TestWaysColumnsAreGoneThroughBackwardByARangeOverAFunction(t *testing.T) {
	for _, x := range ranges(t, "Make") {
		if backward(x) {
			return
		}
	}
	t.Error("Make ranges over no function that goes backward")
}

func TestWaysFactorsAreCountedByARangeOverAnInteger(t *testing.T) {
	for _, x := range ranges(t, "Power") {
		if name, ok := x.(*ast.Ident); ok && name.Name == "i" {
			return
		}
	}
	t.Error("Power does not range over the column's number")
}
