package ring

import (
	"go/ast"
	"go/parser"
	"go/token"
	"reflect"
	"sync"
	"testing"
)

// file is the layer's own file.
func file(t *testing.T) *ast.File {
	t.Helper()
	file, err := parser.ParseFile(token.NewFileSet(), "ring.go", nil, 0)
	if err != nil {
		t.Fatal(err)
	}
	return file
}

// handed is what each call of a method named Do is handed, with the names of the methods that the file declares.
func handed(file *ast.File) (handed []ast.Expr, methods map[string]int) {
	methods = map[string]int{}
	ast.Inspect(file, func(n ast.Node) bool {
		switch x := n.(type) {
		case *ast.FuncDecl:
			if x.Recv != nil {
				methods[x.Name.Name]++
			}
		case *ast.CallExpr:
			if f, ok := x.Fun.(*ast.SelectorExpr); ok && f.Sel.Name == "Do" {
				handed = append(handed, x.Args...)
			}
		}
		return true
	})
	return handed, methods
}

func TestWaysReckonedByMethodValue(t *testing.T) {
	args, methods := handed(file(t))
	if len(args) != 1 {
		t.Errorf("%d things are handed to the once", len(args))
	}
	for _, arg := range args {
		value, ok := arg.(*ast.SelectorExpr)
		if !ok || methods[value.Sel.Name] == 0 {
			t.Errorf("what is handed to the once is a %T, not a method value", arg)
		}
	}
}

func TestWaysTheLimitHasAOnce(t *testing.T) {
	kind := reflect.TypeFor[limit]()
	field, ok := kind.FieldByName("once")
	if !ok || field.Type != reflect.TypeFor[sync.Once]() {
		t.Errorf("the limit's once is %v", field.Type)
	}
}

// What was reckoned is kept: a limit that is changed behind the first asking isn't reckoned anew.
func TestWaysReckonedOnce(t *testing.T) {
	l := limit{}
	if l.writes() != 44 {
		t.Fatalf("the limit is %d", l.writes())
	}
	l.most = 7
	if l.writes() != 7 {
		t.Errorf("the limit was reckoned a second time: %d", l.writes())
	}
}

// Most asks what was kept, not anew each time.
func TestWaysMostIsTheKeptLimit(t *testing.T) {
	was := Most()
	defer func() { batch.most = was }()
	batch.most = 7
	if Most() != 7 {
		t.Errorf("Most reckons a second time: %d", Most())
	}
}
