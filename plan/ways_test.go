package plan

import (
	"go/ast"
	"go/parser"
	"go/token"
	"reflect"
	"slices"
	"testing"
)

// source is the layer's file.
func source(t *testing.T) *ast.File {
	t.Helper()
	file, err := parser.ParseFile(token.NewFileSet(), "plan.go", nil, 0)
	if err != nil {
		t.Fatal(err)
	}
	return file
}

// function is one of the file that isn't a method, by its name.
func function(t *testing.T, name string) *ast.FuncDecl {
	t.Helper()
	for _, d := range source(t).Decls {
		if f, ok := d.(*ast.FuncDecl); ok && f.Recv == nil && f.Name.Name == name {
			return f
		}
	}
	t.Fatalf("there is no %s", name)
	return nil
}

// uses tells if a name stands somewhere in a piece of the file.
func uses(n ast.Node, name string) bool {
	found := false
	ast.Inspect(n, func(n ast.Node) bool {
		if x, ok := n.(*ast.Ident); ok && x.Name == name {
			found = true
		}
		return true
	})
	return found
}

func TestWaysKindsAreNumberedByIota(t *testing.T) {
	for _, d := range source(t).Decls {
		group, ok := d.(*ast.GenDecl)
		if !ok || group.Tok != token.CONST || !uses(group, "Whole") {
			continue
		}
		for i, s := range group.Specs {
			line := s.(*ast.ValueSpec)
			// Only the first line has a value: the others repeat it, each by its own number.
			if i == 0 && (len(line.Values) != 1 || !uses(line.Values[0], "iota")) || i > 0 && len(line.Values) != 0 {
				t.Errorf("the kind %s isn't numbered by iota", line.Names[0].Name)
			}
		}
		return
	}
	t.Error("there are no kinds")
}

func TestWaysColumnsStandInAMap(t *testing.T) {
	columns := reflect.TypeFor[map[int]string]()
	if x := reflect.TypeFor[Columns](); x.Kind() != reflect.Map || !columns.ConvertibleTo(x) {
		t.Errorf("Columns are %v, no map", x)
	}
	for _, name := range []string{"now", "old", "read"} {
		if field, ok := reflect.TypeFor[work]().FieldByName(name); !ok || field.Type != reflect.TypeFor[Columns]() {
			t.Errorf("of a stripe whose parities are made, %s doesn't stand in a map", name)
		}
	}
}

// methodValues are the methods that stand in a function's table, by their places, none of them called there.
func methodValues(t *testing.T, f *ast.FuncDecl) map[string]string {
	t.Helper()
	found := map[string]string{}
	ast.Inspect(f.Body, func(n ast.Node) bool {
		table, ok := n.(*ast.CompositeLit)
		if !ok {
			return true
		}
		of, ok := table.Type.(*ast.ArrayType)
		if !ok {
			return true
		}
		if _, ok := of.Elt.(*ast.FuncType); !ok {
			return true
		}
		for _, x := range table.Elts {
			line := x.(*ast.KeyValueExpr)
			method, ok := line.Value.(*ast.SelectorExpr)
			if !ok {
				t.Errorf("in the table of %s stands what is no method value", f.Name.Name)
				continue
			}
			found[line.Key.(*ast.Ident).Name] = method.Sel.Name
		}
		return true
	})
	return found
}

// TestWaysAreMethodValues: what each way reads, and how each makes the parities.
func TestWaysAreMethodValues(t *testing.T) {
	all := []string{"Full", "Great", "Small", "Whole"}
	for _, x := range []struct {
		name string
		want []string
	}{
		{"Ways", []string{"full", "great", "small", "whole"}},
		{"Make", []string{"ofAll", "ofAll", "ofChanges", "ofRow"}},
	} {
		found := methodValues(t, function(t, x.name))
		var got []string
		for _, kind := range all {
			got = append(got, found[kind])
		}
		if !slices.Equal(got, x.want) || len(found) != len(all) {
			t.Errorf("the ways of %s are %v, want the method values %v", x.name, found, x.want)
		}
	}
}

// TestWaysTheLeastIsFoundByAClosure: which of two ways reads less is said by a function literal.
func TestWaysTheLeastIsFoundByAClosure(t *testing.T) {
	found := false
	ast.Inspect(function(t, "Choose").Body, func(n ast.Node) bool {
		f, ok := n.(*ast.FuncLit)
		found = found || ok && uses(f.Body, "Reads") && uses(f.Body, "Count")
		return true
	})
	if !found {
		t.Error("Choose holds no ways against each other by a closure")
	}
}
