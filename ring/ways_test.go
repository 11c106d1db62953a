package ring

import (
	"go/ast"
	"go/parser"
	"go/token"
	"math"
	"reflect"
	"sync"
	"testing"
)

// file is the layer's own file.
func file(t *testing.T) *ast.File {
	t.Helper()
	file, err := parser.ParseFile(token.NewFileSet(), "ring.go", nil, 0)
	if err != nil {
		t.Fatal(err)
	}
	return file
}

// handed is what each call of a method named Do is handed, with the names of the methods that the file declares.
func handed(file *ast.File) (handed []ast.Expr, methods map[string]int) {
	methods = map[string]int{}
	ast.Inspect(file, func(n ast.Node) bool {
		switch x := n.(type) {
		case *ast.FuncDecl:
			if x.Recv != nil {
				methods[x.Name.Name]++
			}
		case *ast.CallExpr:
			if f, ok := x.Fun.(*ast.SelectorExpr); ok && f.Sel.Name == "Do" {
				handed = append(handed, x.Args...)
			}
		}
		return true
	})
	return handed, methods
}

func TestWaysReckonedByMethodValue(t *testing.T) {
	args, methods := handed(file(t))
	if len(args) != 1 {
		t.Errorf("%d things are handed to the once", len(args))
	}
	for _, arg := range args {
		value, ok := arg.(*ast.SelectorExpr)
		if !ok || methods[value.Sel.Name] == 0 {
			t.Errorf("what is handed to the once is a %T, not a method value", arg)
		}
	}
}

func TestWaysTheLimitHasAOnce(t *testing.T) {
	kind := reflect.TypeFor[limit]()
	field, ok := kind.FieldByName("once")
	if !ok || field.Type != reflect.TypeFor[sync.Once]() {
		t.Errorf("the limit's once is %v", field.Type)
	}
}

// What was reckoned is kept: a limit that is changed behind the first asking isn't reckoned anew.
func TestWaysReckonedOnce(t *testing.T) {
	l := limit{}
	if l.writes() != 44 {
		t.Fatalf("the limit is %d", l.writes())
	}
	l.most = 7
	if l.writes() != 7 {
		t.Errorf("the limit was reckoned a second time: %d", l.writes())
	}
}

// TestWaysMostAsksTheLimit: Most has the limit reckoned, by the first asking alone.
func TestWaysMostAsksTheLimit(t *testing.T) {
	defer func() { batch = limit{} }()
	batch = limit{}
	Need(44)
	Pack([]int{44})
	if batch.most != 0 {
		t.Errorf("the limit is %d ahead of its being asked for", batch.most)
	}
	if Most() != 44 || batch.most != 44 {
		t.Errorf("Most doesn't ask the limit, which is %d", batch.most)
	}
	batch.most = 7
	if Most(); batch.most != 7 {
		t.Errorf("the limit was reckoned a second time: %d", batch.most)
	}
}

// TestNoAnswerHangsOnTheLimit: Most and Pack work their answers out by a function, whatever is kept.
func TestNoAnswerHangsOnTheLimit(t *testing.T) {
	defer func() { batch = limit{} }()
	for _, kept := range []int{math.MinInt, -1, 0, 7, 43, 45, 96, math.MaxInt} {
		Most()
		batch.most = kept
		if most, packed := Most(), Pack([]int{43, 1, 0, 1}); most != 44 || packed != 3 {
			t.Errorf("with %d kept, Most is %d, and Pack %d", kept, most, packed)
		}
	}
}
