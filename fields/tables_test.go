package fields

import (
	"go/ast"
	"go/parser"
	"go/token"
	"io/fs"
	"path/filepath"
	"strings"
	"testing"
)

// programFiles are the Go files of the program, without tests, by their folders.
func programFiles(t *testing.T, files *token.FileSet) map[string][]*ast.File {
	t.Helper()
	found := map[string][]*ast.File{}
	err := filepath.WalkDir("..", func(path string, entry fs.DirEntry, err error) error {
		switch {
		case err != nil:
			return err
		case entry.IsDir() && (entry.Name() == "sharedtests" || entry.Name() == ".git"):
			return fs.SkipDir
		case entry.IsDir() || !strings.HasSuffix(path, ".go") || strings.HasSuffix(path, "_test.go"):
			return nil
		}
		file, err := parser.ParseFile(files, path, nil, 0)
		found[filepath.Dir(path)] = append(found[filepath.Dir(path)], file)
		return err
	})
	if err != nil {
		t.Fatal(err)
	}
	return found
}

// tablesOf tells the variables at package level, and their declarations.
func tablesOf(folder []*ast.File) map[string]*ast.ValueSpec {
	tables := map[string]*ast.ValueSpec{}
	for _, file := range folder {
		for _, declared := range file.Decls {
			group, ok := declared.(*ast.GenDecl)
			if !ok || group.Tok != token.VAR {
				continue
			}
			for _, spec := range group.Specs {
				for _, name := range spec.(*ast.ValueSpec).Names {
					tables[name.Name] = spec.(*ast.ValueSpec)
				}
			}
		}
	}
	return tables
}

// sharing tells the first piece of a table of which a copy would still lie in the table, or nil.
func sharing(table *ast.ValueSpec) (found ast.Node) {
	ast.Inspect(table, func(node ast.Node) bool {
		switch piece := node.(type) {
		case *ast.ArrayType:
			if piece.Len == nil {
				found = piece
			}
		case *ast.UnaryExpr:
			if piece.Op == token.AND {
				found = piece
			}
		case *ast.MapType, *ast.StarExpr, *ast.FuncType, *ast.ChanType, *ast.InterfaceType:
			found = piece
		}
		return found == nil
	})
	return found
}

// innermost tells what is indexed, or whose field is asked for.
func innermost(of ast.Expr) ast.Expr {
	switch of := of.(type) {
	case *ast.IndexExpr:
		return innermost(of.X)
	case *ast.SelectorExpr:
		return innermost(of.X)
	case *ast.ParenExpr:
		return innermost(of.X)
	}
	return of
}

// handedOn tells the first piece of a file that hands on a place in a table, or writes there, or nil.
func handedOn(file *ast.File, tables map[string]*ast.ValueSpec) (found ast.Node) {
	inTable := func(of ast.Expr) bool {
		name, ok := innermost(of).(*ast.Ident)
		return ok && tables[name.Name] != nil
	}
	ast.Inspect(file, func(node ast.Node) bool {
		switch piece := node.(type) {
		case *ast.SliceExpr:
			if inTable(piece.X) {
				found = piece
			}
		case *ast.UnaryExpr:
			if piece.Op == token.AND && inTable(piece.X) {
				found = piece
			}
		case *ast.AssignStmt:
			for _, to := range piece.Lhs {
				if piece.Tok != token.DEFINE && inTable(to) {
					found = piece
				}
			}
		}
		return found == nil
	})
	return found
}

// A table at package level is read on the spot: what is taken out of it is a copy, and shares nothing with it.
func TestTablesAreReadOnTheSpot(t *testing.T) {
	files := token.NewFileSet()
	count := 0
	for _, folder := range programFiles(t, files) {
		tables := tablesOf(folder)
		count += len(tables)
		for name, table := range tables {
			if piece := sharing(table); piece != nil {
				t.Errorf("%v: a copy of this still lies in the table %s", files.Position(piece.Pos()), name)
			}
		}
		for _, file := range folder {
			if piece := handedOn(file, tables); piece != nil {
				t.Errorf("%v: a place in a table is handed on, or written into", files.Position(piece.Pos()))
			}
		}
	}
	if count < 5 {
		t.Errorf("only %d tables were found", count)
	}
}
