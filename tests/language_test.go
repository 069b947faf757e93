package tests

import (
	"bytes"
	"go/ast"
	"go/format"
	"go/parser"
	"go/token"
	"os"
	"path/filepath"
	"slices"
	"strconv"
	"strings"
	"testing"
)

// allowedImports: what the program's language lets it take from the library.
var allowedImports = []string{"bytes", "cmp", "container/heap", "errors", "iter", "maps", "math", "math/bits", "slices", "sort", "strconv", "strings", "sync", "sync/atomic", "unicode", "unicode/utf8"}

const longestFunction = 60

// The language holds for the program alone, so it is asked of impl and not of the tests.
func TestProgramKeepsToItsLanguage(t *testing.T) {
	files, err := filepath.Glob("../impl/*.go")
	if err != nil || len(files) == 0 {
		t.Fatal("no program", err)
	}
	for _, name := range files {
		text, err := os.ReadFile(name)
		if err != nil {
			t.Fatal(err)
		}
		laid, err := format.Source(text)
		if err != nil || !bytes.Equal(laid, text) {
			t.Errorf("%s is not in gofmt's layout (%v)", name, err)
		}
		if bytes.Contains(text, []byte("//go:")) {
			t.Errorf("%s has a //go: line", name)
		}
		checkFile(t, name, text)
	}
}

func checkFile(t *testing.T, name string, text []byte) {
	places := token.NewFileSet()
	file, err := parser.ParseFile(places, name, text, 0)
	if err != nil {
		t.Fatal(err)
	}
	for _, i := range file.Imports {
		path, _ := strconv.Unquote(i.Path.Value)
		if !slices.Contains(allowedImports, path) && !strings.HasPrefix(path, "loop.example/g00133/") {
			t.Errorf("%s imports %s", name, path)
		}
	}
	for _, d := range file.Decls {
		if f, ok := d.(*ast.FuncDecl); ok {
			lines := places.Position(f.End()).Line - places.Position(f.Pos()).Line + 1
			if lines > longestFunction {
				t.Errorf("%s: %s has %d lines", name, f.Name.Name, lines)
			}
		}
	}
}
