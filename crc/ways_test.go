package crc

import (
	"go/ast"
	"go/parser"
	"go/token"
	"reflect"
	"sync"
	"sync/atomic"
	"testing"
)

// fieldsOf counts the fields of a Table by what they are.
func fieldsOf() (arrays, onces, counts, others int) {
	kind := reflect.TypeFor[Table]()
	for i := range kind.NumField() {
		switch field := kind.Field(i).Type; {
		case field == reflect.TypeFor[sync.Once]():
			onces++
		case field == reflect.TypeFor[atomic.Int64]():
			counts++
		case field.Kind() == reflect.Array:
			arrays++
		default:
			others++
		}
	}
	return arrays, onces, counts, others
}

func TestWaysTablesAreArraysInTheObject(t *testing.T) {
	arrays, onces, counts, others := fieldsOf()
	if arrays != 2 || onces != 1 || counts != 1 || others != 0 {
		t.Errorf("a Table has %d arrays, %d sync.Once, %d atomic numbers and %d other fields", arrays, onces, counts, others)
	}
}

// handed is what each call of a method named Do is handed, with the names of the methods that the file declares.
func handed(t *testing.T) (handed []ast.Expr, methods map[string]int) {
	t.Helper()
	file, err := parser.ParseFile(token.NewFileSet(), "crc.go", nil, 0)
	if err != nil {
		t.Fatal(err)
	}
	methods = map[string]int{}
	ast.Inspect(file, func(n ast.Node) bool {
		switch x := n.(type) {
		case *ast.FuncDecl:
			if x.Recv != nil {
				methods[x.Name.Name]++
			}
		case *ast.CallExpr:
			if f, ok := x.Fun.(*ast.SelectorExpr); ok && f.Sel.Name == "Do" {
				handed = append(handed, x.Args...)
			}
		}
		return true
	})
	return handed, methods
}

func TestWaysMadeOnceByMethodValue(t *testing.T) {
	args, methods := handed(t)
	if len(args) == 0 {
		t.Error("nothing is handed to the once")
	}
	for _, arg := range args {
		value, ok := arg.(*ast.SelectorExpr)
		if !ok || methods[value.Sel.Name] == 0 {
			t.Errorf("what is handed to the once is a %T, not a method value", arg)
		}
	}
}
