// Package rules tests that the program keeps to its part of Go, and that what is given stays as it is.
package rules

import (
	"crypto/sha256"
	"fmt"
	"go/ast"
	"go/parser"
	"go/token"
	"io/fs"
	"os"
	"path/filepath"
	"strconv"
	"strings"
	"testing"

	"relay/api"
	"relay/relay"
)

// The calls that are given, with their types.
var (
	_ func(string) (api.Errno, int)                                             = relay.Check
	_ func(string) (string, api.Errno)                                          = relay.Print
	_ func(string) ([]api.Route, api.Errno)                                     = relay.Links
	_ func(string, [][]int, int) ([][]int, api.Errno)                           = relay.Streams
	_ func(api.Code, int, []int, []int, []int) ([]int, []int, api.Errno)        = relay.Exec
	_ func(string, int) (api.Code, api.Errno)                                   = relay.Code
	_ func(string, api.Bounds, []api.Act) api.Errno                             = relay.Valid
	_ func(string, api.Bounds, int) (int, api.Errno)                            = relay.Latest
	_ func(text string, ins [][]int, script []api.Act) ([]api.Event, api.Errno) = relay.Run
)

const longestFunction = 40

func TestGivenPackageIsUntouched(t *testing.T) {
	entries, err := os.ReadDir("../api")
	if err != nil || len(entries) != 1 || entries[0].Name() != "api.go" {
		t.Fatalf("api holds %v, %v", entries, err)
	}
	bytes, err := os.ReadFile("../api/api.go")
	if err != nil {
		t.Fatal(err)
	}
	if sum := fmt.Sprintf("%x", sha256.Sum256(bytes)); sum != "1fbfb462497140290ab5a22aa7014200cbbe5f871048bb6cff5fbc43d2d17543" {
		t.Errorf("api.go has changed: %s", sum)
	}
}

// sources: the Go files of the program, without tests.
func sources(t *testing.T) []string {
	var list []string
	err := filepath.WalkDir("..", func(path string, entry fs.DirEntry, err error) error {
		name := entry.Name()
		switch {
		case err != nil:
			return err
		case entry.IsDir() && (name == "sharedtests" || name != ".." && strings.HasPrefix(name, ".")):
			return fs.SkipDir
		case entry.IsDir():
			testFolder(t, path)
		case filepath.Dir(path) == "..":
			// go.mod and README.md
		case !strings.HasSuffix(name, ".go"):
			t.Errorf("%s is no Go file", path)
		case !strings.HasSuffix(name, "_test.go"):
			list = append(list, path)
		}
		return nil
	})
	if err != nil {
		t.Fatal(err)
	}
	return list
}

func testFolder(t *testing.T, path string) {
	name := filepath.Base(path)
	if name == "form" || name == "try" || strings.HasPrefix(name, "relay") && path != "../relay" {
		t.Errorf("the folder name %s is not free", name)
	}
}

func TestLanguage(t *testing.T) {
	files := token.NewFileSet()
	list := sources(t)
	if len(list) < 3 {
		t.Fatalf("the program is only %v", list)
	}
	for _, path := range list {
		file, err := parser.ParseFile(files, path, nil, parser.ParseComments)
		if err != nil {
			t.Fatal(err)
		}
		report := func(n ast.Node, what string) { t.Errorf("%v: %s", files.Position(n.Pos()), what) }
		testImports(file, report)
		for _, group := range file.Comments {
			for _, c := range group.List {
				if strings.HasPrefix(c.Text, "//go:") {
					report(c, "a //go: line")
				}
			}
		}
		for _, d := range file.Decls {
			testDeclaration(files, d, report)
		}
		ast.Inspect(file, func(n ast.Node) bool {
			testNode(n, report)
			return true
		})
	}
}

func testImports(file *ast.File, report func(ast.Node, string)) {
	for _, i := range file.Imports {
		path, _ := strconv.Unquote(i.Path.Value)
		if path != "strconv" && !strings.HasPrefix(path, "relay/") || i.Name != nil {
			report(i, "imports "+path)
		}
	}
}

func testDeclaration(files *token.FileSet, d ast.Decl, report func(ast.Node, string)) {
	switch d := d.(type) {
	case *ast.FuncDecl:
		if lines := files.Position(d.End()).Line - files.Position(d.Pos()).Line + 1; lines > longestFunction {
			report(d, fmt.Sprintf("a function of %d lines", lines))
		}
		if d.Type.TypeParams != nil {
			report(d, "generics")
		}
	case *ast.GenDecl:
		if d.Tok == token.VAR {
			testTable(d, report)
		}
	}
}

func testTable(d *ast.GenDecl, report func(ast.Node, string)) {
	for _, s := range d.Specs {
		values := s.(*ast.ValueSpec).Values
		if len(values) != 1 {
			report(s, "a variable of the package")
			continue
		}
		literal, ok := values[0].(*ast.CompositeLit)
		if !ok {
			report(s, "a variable of the package")
			continue
		}
		if array, ok := literal.Type.(*ast.ArrayType); !ok || array.Len == nil {
			report(s, "a table that is no array")
		}
	}
}

// names of the language that the program does without.
const banned = " panic recover cap any error float32 float64 complex64 complex128 uintptr "

func testNode(n ast.Node, report func(ast.Node, string)) {
	switch n := n.(type) {
	case *ast.GoStmt, *ast.DeferStmt, *ast.SelectStmt, *ast.SendStmt, *ast.ChanType, *ast.MapType, *ast.FuncLit, *ast.InterfaceType, *ast.TypeAssertExpr, *ast.TypeSwitchStmt:
		report(n, fmt.Sprintf("%T", n))
	case *ast.BasicLit:
		if n.Kind == token.FLOAT || n.Kind == token.IMAG {
			report(n, "a float")
		}
	case *ast.Ident:
		if strings.Contains(banned, " "+n.Name+" ") {
			report(n, n.Name)
		}
	case *ast.AssignStmt:
		testTargets(n, report)
	}
}

// testTargets: several targets are plain names.
func testTargets(n *ast.AssignStmt, report func(ast.Node, string)) {
	for _, target := range n.Lhs {
		if _, plain := target.(*ast.Ident); !plain && len(n.Lhs) > 1 {
			report(n, "several targets, one of them no plain name")
		}
	}
}
