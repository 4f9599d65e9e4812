// Package rules holds no program, only a look at the text of the others: shared/LANGUAGE.md, as far as it is plain to see.
package rules

import (
	"bytes"
	"go/ast"
	"go/format"
	"go/parser"
	"go/token"
	"io/fs"
	"os"
	"path/filepath"
	"slices"
	"strconv"
	"strings"
	"testing"
)

// layers are the project's packages; each calls only those that stand ahead of it.
var layers = []string{
	"api", "ring", "code", "bag", "link", "value", "filter", "dyad", "group", "peer", "chord",
	"ideal", "route", "table", "window", "msg", "node", "world", "board", "script", "tree", "rdv",
}

// library is what may be imported beside them.
var library = []string{
	"bytes", "cmp", "container/heap", "errors", "iter", "maps", "math", "math/bits", "slices", "sort",
	"strconv", "strings", "sync", "sync/atomic", "unicode", "unicode/utf8",
}

const longest = 60

// sharedTests is where .ci/run lays the shared tests, which may use all of Go.
const sharedTests = "../sharedtests"

// programFiles: the Go files of the program, without its tests.
func programFiles(t *testing.T) []string {
	var l []string
	err := filepath.WalkDir("..", func(path string, d fs.DirEntry, err error) error {
		if filepath.ToSlash(path) == sharedTests {
			return fs.SkipDir
		}
		if err == nil && strings.HasSuffix(path, ".go") && !strings.HasSuffix(path, "_test.go") {
			l = append(l, path)
		}
		return err
	})
	if err != nil || len(l) < len(layers) {
		t.Fatalf("%d files, %v", len(l), err)
	}
	return l
}

func TestProgramKeepsToTheLanguage(t *testing.T) {
	for _, path := range programFiles(t) {
		text, err := os.ReadFile(path)
		if err != nil {
			t.Fatal(err)
		}
		places := token.NewFileSet()
		file, err := parser.ParseFile(places, path, text, parser.ParseComments)
		if err != nil {
			t.Fatal(err)
		}
		if tidy, err := format.Source(text); err != nil || !bytes.Equal(tidy, text) {
			t.Errorf("%s isn't in gofmt's layout: %v", path, err)
		}
		checkImports(t, path, file)
		checkRemarks(t, path, file)
		checkLengths(t, path, file, places)
	}
}

func checkImports(t *testing.T, path string, file *ast.File) {
	own := slices.Index(layers, filepath.Base(filepath.Dir(path)))
	if own < 0 {
		t.Errorf("%s belongs to no layer", path)
	}
	for _, x := range file.Imports {
		name, err := strconv.Unquote(x.Path.Value)
		if err != nil {
			t.Fatal(err)
		}
		if below, ours := strings.CutPrefix(name, "wigwag/"); ours {
			if i := slices.Index(layers, below); i < 0 || i >= own {
				t.Errorf("%s imports %s, which isn't below it", path, name)
			}
		} else if !slices.Contains(library, name) {
			t.Errorf("%s imports %s", path, name)
		}
	}
}

func checkRemarks(t *testing.T, path string, file *ast.File) {
	for _, group := range file.Comments {
		for _, c := range group.List {
			if strings.HasPrefix(c.Text, "//go:") || strings.HasPrefix(c.Text, "// +build") {
				t.Errorf("%s: %s", path, c.Text)
			}
		}
	}
}

func checkLengths(t *testing.T, path string, file *ast.File, places *token.FileSet) {
	for _, d := range file.Decls {
		f, ok := d.(*ast.FuncDecl)
		if !ok {
			continue
		}
		if n := places.Position(f.End()).Line - places.Position(f.Pos()).Line + 1; n > longest {
			t.Errorf("%s: %s has %d lines", path, f.Name.Name, n)
		}
	}
}
