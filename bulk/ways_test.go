package bulk

import (
	"go/ast"
	"go/parser"
	"go/token"
	"testing"
)

// functions are those that the layer's file declares, by their names.
func functions(t *testing.T) map[string]*ast.FuncDecl {
	t.Helper()
	file, err := parser.ParseFile(token.NewFileSet(), "bulk.go", nil, 0)
	if err != nil {
		t.Fatal(err)
	}
	found := map[string]*ast.FuncDecl{}
	for _, d := range file.Decls {
		if f, ok := d.(*ast.FuncDecl); ok {
			found[f.Name.Name] = f
		}
	}
	return found
}

// variadic tells if a function's last argument takes any number of texts.
func variadic(f *ast.FuncDecl) bool {
	if f == nil || f.Type.Params.NumFields() == 0 {
		return false
	}
	l := f.Type.Params.List
	_, ok := l[len(l)-1].Type.(*ast.Ellipsis)
	return ok
}

// closures counts the function literals of a function that it hands, with its buffers, to a variadic function.
func closures(f *ast.FuncDecl, all map[string]*ast.FuncDecl) int {
	count := 0
	ast.Inspect(f, func(n ast.Node) bool {
		call, ok := n.(*ast.CallExpr)
		if !ok {
			return true
		}
		if name, ok := call.Fun.(*ast.Ident); !ok || !variadic(all[name.Name]) {
			return true
		}
		for _, arg := range call.Args {
			if _, ok := arg.(*ast.FuncLit); ok {
				count++
			}
		}
		return true
	})
	return count
}

func TestWaysBuffersComeInThroughVariadic(t *testing.T) {
	if all := functions(t); !variadic(all["Add"]) {
		t.Error("Add takes no list of its own length")
	}
}

func TestWaysWhatIsDoneToWordsIsAClosure(t *testing.T) {
	all := functions(t)
	for _, name := range []string{"Add", "Scale", "Fold", "Double"} {
		if all[name] == nil || closures(all[name], all) == 0 {
			t.Errorf("%s hands no closure to a variadic function", name)
		}
	}
}
