package board

import (
	"go/ast"
	"go/importer"
	"go/parser"
	"go/token"
	"go/types"
	"testing"
)

// checked is the layer's file, with the types of what stands in it.
func checked(t *testing.T) (map[string]*ast.FuncDecl, *types.Info) {
	t.Helper()
	set := token.NewFileSet()
	file, err := parser.ParseFile(set, "board.go", nil, 0)
	if err != nil {
		t.Fatal(err)
	}
	info := &types.Info{Types: map[ast.Expr]types.TypeAndValue{}}
	config := types.Config{Importer: importer.ForCompiler(set, "source", nil)}
	if _, err := config.Check("trunnion/board", set, []*ast.File{file}, info); err != nil {
		t.Fatal(err)
	}
	found := map[string]*ast.FuncDecl{}
	for _, d := range file.Decls {
		if f, ok := d.(*ast.FuncDecl); ok {
			found[f.Name.Name] = f
		}
	}
	return found, info
}

// overMembers tells if an expression is the number of an array's members, or of a bay's.
func overMembers(x ast.Expr) bool {
	if c, ok := x.(*ast.CallExpr); ok {
		s, ok := c.Fun.(*ast.SelectorExpr)
		return ok && s.Sel.Name == "Size"
	}
	s, ok := x.(*ast.SelectorExpr)
	return ok && s.Sel.Name == "Members"
}

// TestWaysRangeInteger: members are gone through by a range over their number, wherever they are: looked at, formatted, read, written to, or asked.
func TestWaysRangeInteger(t *testing.T) {
	all, info := checked(t)
	for _, name := range []string{"fits", "Format", "readAll", "withoutDead", "publish", "Next"} {
		f := all[name]
		if f == nil {
			t.Errorf("there is no %s", name)
			continue
		}
		found := false
		ast.Inspect(f, func(n ast.Node) bool {
			if r, ok := n.(*ast.RangeStmt); ok && overMembers(r.X) {
				basic, ok := info.Types[r.X].Type.Underlying().(*types.Basic)
				found = found || ok && basic.Info()&types.IsInteger != 0
			}
			return true
		})
		if !found {
			t.Errorf("%s doesn't go through members by a range over an integer", name)
		}
	}
}

// TestWaysNoOtherLoop: nothing is counted by hand, and the only list that is gone through is that of sectors.
func TestWaysNoOtherLoop(t *testing.T) {
	all, info := checked(t)
	for name, f := range all {
		ast.Inspect(f, func(n ast.Node) bool {
			switch x := n.(type) {
			case *ast.ForStmt:
				t.Errorf("%s counts by hand", name)
			case *ast.RangeStmt:
				if _, ok := info.Types[x.X].Type.Underlying().(*types.Basic); !ok && name != "begin" {
					t.Errorf("%s goes through a %v", name, info.Types[x.X].Type)
				}
			}
			return true
		})
	}
}
