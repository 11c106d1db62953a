package queue

import (
	"go/ast"
	"go/parser"
	"go/token"
	"testing"
)

// methods are those that the layer's file declares of a queue, by their names.
func methods(t *testing.T) map[string]*ast.FuncDecl {
	t.Helper()
	file, err := parser.ParseFile(token.NewFileSet(), "queue.go", nil, 0)
	if err != nil {
		t.Fatal(err)
	}
	found := map[string]*ast.FuncDecl{}
	for _, d := range file.Decls {
		if f, ok := d.(*ast.FuncDecl); ok && f.Recv != nil {
			found[f.Name.Name] = f
		}
	}
	return found
}

// names tells if a name stands somewhere in a piece of the file.
func names(n ast.Node, name string) bool {
	found := false
	ast.Inspect(n, func(n ast.Node) bool {
		if x, ok := n.(*ast.Ident); ok && x.Name == name {
			found = true
		}
		return true
	})
	return found
}

// closures are those that a function hands to calls.
func closures(f *ast.FuncDecl) []*ast.FuncLit {
	var found []*ast.FuncLit
	ast.Inspect(f, func(n ast.Node) bool {
		if call, ok := n.(*ast.CallExpr); ok {
			for _, arg := range call.Args {
				if closure, ok := arg.(*ast.FuncLit); ok {
					found = append(found, closure)
				}
			}
		}
		return true
	})
	return found
}

// TestWaysPlaceIsFoundByClosure: the closure looks at the queue's items and at the block, neither of which is handed to it.
func TestWaysPlaceIsFoundByClosure(t *testing.T) {
	all := methods(t)
	handed := closures(all["find"])
	if len(handed) != 1 {
		t.Fatalf("%d closures find a block's place, want one", len(handed))
	}
	if !names(handed[0].Body, "items") || !names(handed[0].Body, "block") || names(handed[0].Type, "block") {
		t.Error("the closure doesn't hold the queue's items against the block")
	}
	for _, name := range []string{"Put", "Get", "Take"} {
		if !names(all[name].Body, "find") {
			t.Errorf("%s doesn't find the block's place by it", name)
		}
	}
}

func TestFind(t *testing.T) {
	q := New(4)
	for _, block := range []int{20, 10, 30} {
		q.Put(block, full('x'))
	}
	for _, x := range []struct {
		block, at int
		there     bool
	}{{-1, 0, false}, {9, 0, false}, {10, 0, true}, {11, 1, false}, {20, 1, true}, {21, 2, false}, {30, 2, true}, {31, 3, false}} {
		if at, there := q.find(x.block); at != x.at || there != x.there {
			t.Errorf("find(%d) is %d, %t; want %d, %t", x.block, at, there, x.at, x.there)
		}
	}
}
