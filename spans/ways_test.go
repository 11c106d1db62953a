package spans

import (
	"go/ast"
	"go/parser"
	"go/token"
	"reflect"
	"testing"
)

// functions are those that the layer's file declares, by their names, a method's behind its receiver's type.
func functions(t *testing.T) map[string]*ast.FuncDecl {
	t.Helper()
	file, err := parser.ParseFile(token.NewFileSet(), "spans.go", nil, 0)
	if err != nil {
		t.Fatal(err)
	}
	found := map[string]*ast.FuncDecl{}
	for _, d := range file.Decls {
		f, ok := d.(*ast.FuncDecl)
		if !ok {
			continue
		}
		name := f.Name.Name
		if f.Recv != nil {
			name = f.Recv.List[0].Type.(*ast.Ident).Name + "." + name
		}
		found[name] = f
	}
	return found
}

// uses counts how often a function calls the method of that name.
func uses(f *ast.FuncDecl, method string) int {
	count := 0
	ast.Inspect(f, func(n ast.Node) bool {
		if call, ok := n.(*ast.CallExpr); ok {
			if x, ok := call.Fun.(*ast.SelectorExpr); ok && x.Sel.Name == method {
				count++
			}
		}
		return true
	})
	return count
}

// looks counts the closures that a function hands to calls, such as read the list.
func looks(f *ast.FuncDecl) int {
	list := f.Recv.List[0].Names[0].Name
	count := 0
	ast.Inspect(f, func(n ast.Node) bool {
		call, ok := n.(*ast.CallExpr)
		if !ok {
			return true
		}
		for _, arg := range call.Args {
			closure, ok := arg.(*ast.FuncLit)
			if !ok {
				continue
			}
			ast.Inspect(closure.Body, func(n ast.Node) bool {
				if x, ok := n.(*ast.IndexExpr); ok {
					if name, ok := x.X.(*ast.Ident); ok && name.Name == list {
						count++
					}
				}
				return true
			})
		}
		return true
	})
	return count
}

func TestWaysPlaceIsFoundByClosure(t *testing.T) {
	all := functions(t)
	if n := looks(all["List.reach"]); n != 2 {
		t.Errorf("%d closures look at the list for a span's place, want one for each of its ends", n)
	}
	for _, name := range []string{"List.Add", "List.Cut", "List.Meet", "List.Gaps"} {
		if uses(all[name], "reach") != 1 {
			t.Errorf("%s doesn't find the place by it", name)
		}
	}
}

func TestWaysWhatIsLeftStandsInAnArray(t *testing.T) {
	left := reflect.TypeOf(Span{}.less(Span{}))
	if left.Kind() != reflect.Array || left.Elem() != reflect.TypeFor[Span]() {
		t.Errorf("what is left of a span stands in a %v", left)
	}
	all := functions(t)
	for _, name := range []string{"List.Cut", "List.Gaps", "Split"} {
		if uses(all[name], "less") != 1 {
			t.Errorf("%s doesn't take what is left from there", name)
		}
	}
}

func TestWhatIsLeftOfASpan(t *testing.T) {
	for _, x := range []struct{ s, t, ahead, behind Span }{
		{Span{5, 9}, Span{6, 7}, Span{5, 6}, Span{7, 9}},
		{Span{5, 9}, Span{5, 7}, Span{}, Span{7, 9}},
		{Span{5, 9}, Span{6, 9}, Span{5, 6}, Span{}},
		{Span{5, 9}, Span{0, 20}, Span{}, Span{}},
		{Span{5, 9}, Span{0, 5}, Span{}, Span{5, 9}},
		{Span{5, 9}, Span{9, 12}, Span{5, 9}, Span{}},
		{Span{5, 9}, Span{20, 30}, Span{5, 9}, Span{}},
		{Span{5, 9}, Span{0, 3}, Span{}, Span{5, 9}},
	} {
		left := x.s.less(x.t)
		for i, want := range []Span{x.ahead, x.behind} {
			if got := left[i]; got.Good() != want.Good() || want.Good() && got != want {
				t.Errorf("of %v without %v is left %v", x.s, x.t, left)
			}
		}
	}
}
