// Package rules holds the whole program against what must be so in every layer: the calls' signatures, which packages a layer calls, and the form of the code.
package rules

import (
	"bytes"
	"go/ast"
	"go/format"
	"go/parser"
	"go/token"
	"os"
	"path/filepath"
	"slices"
	"strconv"
	"strings"
	"testing"
)

// A few more lines than 60 may stand where a function reads better whole.
const maxLines = 64

// calls: which of the project's packages each layer calls, in the order of the layers; behind them what is given and what the tests share.
func calls() (layers []string, of map[string][]string) {
	of = map[string][]string{"api": nil, "trial": {"api"}}
	for _, row := range strings.Split(`safeint: api
scale: api
graph: api
walk: api graph
heaps: api
unions: api
links: api
short: api graph heaps
euler: api graph walk
span: api graph heaps unions
proof: api safeint graph
vouch: api graph proof
maxflow: api graph links proof
mincost: api graph heaps proof
bimatch: api graph
assign: api heaps bimatch
blossom: api graph
perfect: api vouch blossom
bmatch: api vouch blossom
postman: api graph walk euler proof vouch mincost perfect
mean: api safeint scale graph walk proof
text: api scale graph
desk: api graph walk heaps unions links short euler span proof vouch maxflow mincost bimatch assign blossom perfect bmatch postman mean text
shell: api safeint mean text desk`, "\n") {
		name, called, _ := strings.Cut(row, ": ")
		layers = append(layers, name)
		of[name] = strings.Fields(called)
	}
	return append(layers, "api", "trial"), of
}

// library: the packages of the language's library that the program may import.
func library() []string {
	return []string{
		"bytes", "cmp", "container/heap", "errors", "iter", "maps", "math", "math/bits", "slices", "sort",
		"strconv", "strings", "sync", "sync/atomic", "unicode", "unicode/utf8",
	}
}

// eachFile hands over all files of all layers, the tests too.
func eachFile(t *testing.T, look func(layer, path string, test bool, content []byte)) {
	layers, _ := calls()
	for _, layer := range layers {
		paths, err := filepath.Glob("../" + layer + "/*")
		if err != nil || len(paths) == 0 {
			t.Errorf("layer %s has no files", layer)
		}
		for _, path := range paths {
			content, err := os.ReadFile(path)
			if err != nil {
				t.Errorf("%s: only files stand in a package: %v", path, err)
				continue
			}
			look(layer, path, strings.HasSuffix(path, "_test.go"), content)
		}
	}
}

func parsed(t *testing.T, path string, content []byte) (*token.FileSet, *ast.File) {
	places := token.NewFileSet()
	file, err := parser.ParseFile(places, path, content, parser.ParseComments)
	if err != nil {
		t.Fatal(err)
	}
	return places, file
}

func TestImports(t *testing.T) {
	_, of := calls()
	eachFile(t, func(layer, path string, test bool, content []byte) {
		if test {
			return
		}
		_, file := parsed(t, path, content)
		for _, spec := range file.Imports {
			name, _ := strconv.Unquote(spec.Path.Value)
			own, found := strings.CutPrefix(name, "compass/")
			if found && !slices.Contains(of[layer], own) || !found && !slices.Contains(library(), name) {
				t.Errorf("%s imports %s", path, name)
			}
		}
	})
}

func TestLayout(t *testing.T) {
	eachFile(t, func(layer, path string, test bool, content []byte) {
		if !strings.HasSuffix(path, ".go") {
			t.Errorf("%s is no Go file", path)
			return
		}
		if laid, err := format.Source(content); err != nil || !bytes.Equal(laid, content) {
			t.Errorf("%s isn't laid out as gofmt does", path)
		}
		for line := range strings.Lines(string(content)) {
			if strings.HasPrefix(line, "//go:") || strings.HasPrefix(line, "// +build") {
				t.Errorf("%s has a line for the tools: %s", path, line)
			}
		}
	})
}

func TestFunctionsAreSmall(t *testing.T) {
	eachFile(t, func(layer, path string, test bool, content []byte) {
		if test {
			return
		}
		places, file := parsed(t, path, content)
		for _, d := range file.Decls {
			f, ok := d.(*ast.FuncDecl)
			if !ok {
				continue
			}
			if lines := places.Position(f.End()).Line - places.Position(f.Pos()).Line + 1; lines > maxLines {
				t.Errorf("%s: %s has %d lines", path, f.Name.Name, lines)
			}
		}
	})
}
