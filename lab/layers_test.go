package lab_test

import (
	"go/ast"
	"go/parser"
	"go/token"
	"path/filepath"
	"slices"
	"strconv"
	"strings"
	"testing"
)

const longest = 60

// below returns, for each layer, the packages of the project that its chapter allows it to import.
func below() map[string][]string {
	return map[string][]string{
		"api":   {},
		"cell":  {"api"},
		"grid":  {"api", "cell"},
		"wall":  {"api", "cell", "grid"},
		"phase": {"api", "cell", "grid"},
		"node":  {"api", "cell", "grid"},
		"level": {"api", "cell", "grid"},
		"gauge": {"api", "grid", "wall"},
		"field": {"api", "grid"},
		"share": {"api", "grid", "node"},
		"lab":   {"api", "cell", "grid", "wall", "phase", "node", "level", "gauge", "field", "share"},
	}
}

// library returns the packages of the standard library that the language of the program has.
func library() []string {
	return strings.Fields("bytes cmp container/heap errors iter maps math math/bits slices sort strconv strings sync sync/atomic unicode unicode/utf8")
}

// TestLayers reads the program's own files, not its tests.
func TestLayers(t *testing.T) {
	for layer, allowed := range below() {
		files, err := filepath.Glob(filepath.Join("..", layer, "*.go"))
		if err != nil || len(files) == 0 {
			t.Errorf("package %s has no files: %v", layer, err)
		}
		for _, file := range files {
			if strings.HasSuffix(file, "_test.go") {
				continue
			}
			set := token.NewFileSet()
			tree, err := parser.ParseFile(set, file, nil, parser.ParseComments)
			if err != nil {
				t.Fatal(err)
			}
			checkImports(t, file, tree, allowed)
			checkDirectives(t, file, tree)
			checkLengths(t, set, tree)
		}
	}
}

func checkImports(t *testing.T, file string, tree *ast.File, allowed []string) {
	for _, x := range tree.Imports {
		path, err := strconv.Unquote(x.Path.Value)
		if err != nil {
			t.Fatal(err)
		}
		own, isOwn := strings.CutPrefix(path, "slipstream/")
		if isOwn && !slices.Contains(allowed, own) || !isOwn && !slices.Contains(library(), path) {
			t.Errorf("%s imports %s", file, path)
		}
	}
}

func checkDirectives(t *testing.T, file string, tree *ast.File) {
	for _, group := range tree.Comments {
		for _, c := range group.List {
			if strings.HasPrefix(c.Text, "//go:") || strings.HasPrefix(c.Text, "// +build") {
				t.Errorf("%s has the directive %s", file, c.Text)
			}
		}
	}
}

func checkLengths(t *testing.T, set *token.FileSet, tree *ast.File) {
	for _, d := range tree.Decls {
		f, ok := d.(*ast.FuncDecl)
		if !ok {
			continue
		}
		first := set.Position(f.Pos())
		if n := set.Position(f.End()).Line - first.Line + 1; n > longest {
			t.Errorf("%s: %s has %d lines", first, f.Name.Name, n)
		}
	}
}
