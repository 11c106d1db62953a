package record

import (
	"go/ast"
	"go/parser"
	"go/token"
	"reflect"
	"strings"
	"testing"
)

// functions are those that the layer's file declares, by their names.
func functions(t *testing.T) map[string]*ast.FuncDecl {
	t.Helper()
	file, err := parser.ParseFile(token.NewFileSet(), "record.go", nil, 0)
	if err != nil {
		t.Fatal(err)
	}
	found := map[string]*ast.FuncDecl{}
	for _, d := range file.Decls {
		if f, ok := d.(*ast.FuncDecl); ok {
			found[f.Name.Name] = f
		}
	}
	return found
}

// own tells if a function takes a name as the own one of what it has by another name.
func own(f *ast.FuncDecl, of, name string) bool {
	found := false
	ast.Inspect(f.Body, func(n ast.Node) bool {
		if s, ok := n.(*ast.SelectorExpr); ok && s.Sel.Name == name {
			x, ok := s.X.(*ast.Ident)
			found = found || ok && x.Name == of
		}
		return true
	})
	return found
}

// calls tells if a function calls another one of the file.
func calls(f *ast.FuncDecl, name string) bool {
	found := false
	ast.Inspect(f.Body, func(n ast.Node) bool {
		if c, ok := n.(*ast.CallExpr); ok {
			x, ok := c.Fun.(*ast.Ident)
			found = found || ok && x.Name == name
		}
		return true
	})
	return found
}

func TestWaysPenEmbedsABuilder(t *testing.T) {
	field, ok := reflect.TypeFor[pen]().FieldByName("Builder")
	if !ok || !field.Anonymous || field.Type != reflect.TypeFor[strings.Builder]() {
		t.Error("what writes numbers doesn't embed a builder of texts")
	}
}

// TestWaysBuilderIsPromoted: what the builder does is used as the pen's own, and nobody names the builder.
func TestWaysBuilderIsPromoted(t *testing.T) {
	all := functions(t)
	for _, x := range []struct{ function, of, name string }{
		{"number", "p", "WriteByte"}, {"fill", "p", "WriteByte"}, {"fill", "p", "Len"},
		{"Lay", "all", "number"}, {"Lay", "all", "WriteString"}, {"Lay", "all", "String"}, {"Lay", "targets", "number"}, {"Lay", "data", "WriteString"},
		{"Put", "sector", "number"}, {"Put", "sector", "WriteString"}, {"Put", "sector", "String"},
	} {
		if !own(all[x.function], x.of, x.name) {
			t.Errorf("%s doesn't take %s as the pen's own", x.function, x.name)
		}
	}
	for name, f := range all {
		for _, of := range []string{"p", "all", "targets", "data", "sector"} {
			if own(f, of, "Builder") {
				t.Errorf("%s names the builder", name)
			}
		}
	}
}

// TestWaysPenWritesAsTheBuilder: numbers stand among the texts that were written ahead of them and behind.
func TestWaysPenWritesAsTheBuilder(t *testing.T) {
	var p pen
	p.WriteString("ab")
	p.number(0x0102030405060708, 8)
	p.number(0x0102030405060708, 2)
	p.number(7, 0)
	p.WriteByte('c')
	p.fill(15)
	p.fill(3)
	if s := p.String(); s != "ab\x01\x02\x03\x04\x05\x06\x07\x08\x07\x08c\x00\x00" || p.Len() != 15 {
		t.Errorf("the pen wrote %q", s)
	}
}

// TestWaysWritesAreLookedAtByAClosure: what tells if a batch is good hands on a function literal that takes a write; Lay asks that.
func TestWaysWritesAreLookedAtByAClosure(t *testing.T) {
	all := functions(t)
	if !calls(all["Lay"], "goodBatch") {
		t.Error("Lay doesn't ask if the batch is good")
	}
	found := 0
	ast.Inspect(all["goodBatch"], func(n ast.Node) bool {
		if f, ok := n.(*ast.FuncLit); ok && len(f.Type.Params.List) == 1 {
			if x, ok := f.Type.Params.List[0].Type.(*ast.Ident); ok && x.Name == "Write" {
				found++
			}
		}
		return true
	})
	if found != 1 {
		t.Errorf("%d closures look at writes", found)
	}
}
