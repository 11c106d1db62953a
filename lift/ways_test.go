package lift

import (
	"go/ast"
	"go/parser"
	"go/token"
	"testing"
)

// methods are those that the layer's file declares of a lift, by their names.
func methods(t *testing.T) map[string]*ast.FuncDecl {
	t.Helper()
	file, err := parser.ParseFile(token.NewFileSet(), "lift.go", nil, 0)
	if err != nil {
		t.Fatal(err)
	}
	found := map[string]*ast.FuncDecl{}
	for _, d := range file.Decls {
		if f, ok := d.(*ast.FuncDecl); ok && f.Recv != nil {
			found[f.Name.Name] = f
		}
	}
	return found
}

// names tells if a name stands somewhere in a piece of the file.
func names(n ast.Node, name string) bool {
	found := false
	ast.Inspect(n, func(n ast.Node) bool {
		if x, ok := n.(*ast.Ident); ok && x.Name == name {
			found = true
		}
		return true
	})
	return found
}

// closures are those that a function hands to calls.
func closures(f *ast.FuncDecl) []*ast.FuncLit {
	var found []*ast.FuncLit
	ast.Inspect(f, func(n ast.Node) bool {
		if call, ok := n.(*ast.CallExpr); ok {
			for _, arg := range call.Args {
				if closure, ok := arg.(*ast.FuncLit); ok {
					found = append(found, closure)
				}
			}
		}
		return true
	})
	return found
}

// frees tells if a closure's body has a name of its own that stands for what is around it: key as such, not a field of that name.
func frees(closure *ast.FuncLit, name string) bool {
	fields := map[*ast.Ident]bool{}
	found := false
	ast.Inspect(closure.Body, func(n ast.Node) bool {
		switch x := n.(type) {
		case *ast.SelectorExpr:
			fields[x.Sel] = true
		case *ast.Ident:
			found = found || x.Name == name && !fields[x]
		}
		return true
	})
	return found && !names(closure.Type, name)
}

// TestWaysPlaceIsFoundByClosure: the closure holds what waits against the key, which isn't handed to it.
func TestWaysPlaceIsFoundByClosure(t *testing.T) {
	all := methods(t)
	if all["find"] == nil {
		t.Fatal("there is no find")
	}
	handed := closures(all["find"])
	if len(handed) != 1 {
		t.Fatalf("%d closures find a key's place, want one", len(handed))
	}
	if !frees(handed[0], "key") {
		t.Error("the closure doesn't hold what waits against the key")
	}
	for _, name := range []string{"Add", "Drop", "Waited"} {
		if !names(all[name].Body, "find") {
			t.Errorf("%s doesn't find the key's place by it", name)
		}
	}
}

func TestFind(t *testing.T) {
	l := New(4)
	for _, key := range []int{20, 10, 30} {
		l.Add(key)
	}
	for _, x := range []struct {
		key, at int
		there   bool
	}{{-1, -1, false}, {9, -1, false}, {10, 1, true}, {11, -1, false}, {20, 0, true}, {30, 2, true}, {31, -1, false}} {
		if at, there := l.find(x.key); at != x.at || there != x.there {
			t.Errorf("find(%d) is %d, %t; want %d, %t", x.key, at, there, x.at, x.there)
		}
	}
}
