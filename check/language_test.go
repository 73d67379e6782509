package check_test

import (
	"go/parser"
	"go/token"
	"path/filepath"
	"slices"
	"strconv"
	"strings"
	"testing"
)

// library are the packages of the library that the program may import, by rule 1 of LANGUAGE.md. Tests may import all.
var library = []string{
	"bytes", "cmp", "container/heap", "errors", "iter", "maps", "math", "math/bits", "slices", "sort", "strconv", "strings",
	"sync", "sync/atomic", "unicode", "unicode/utf8",
}

// strange says whether a folder is none of the project's, but may be laid beside its packages.
func strange(folder string) bool {
	return folder == "form" || folder == "try" || folder == "sharedtests" || strings.HasPrefix(folder, "catchbolt")
}

// imports are what a file imports.
func imports(t *testing.T, file string) []string {
	t.Helper()
	parsed, err := parser.ParseFile(token.NewFileSet(), file, nil, parser.ImportsOnly)
	if err != nil {
		t.Fatal(err)
	}
	var all []string
	for _, one := range parsed.Imports {
		path, err := strconv.Unquote(one.Path.Value)
		if err != nil {
			t.Fatal(err)
		}
		all = append(all, path)
	}
	return all
}

func TestImportsOfAllPackages(t *testing.T) {
	files, err := filepath.Glob("../*/*.go")
	if err != nil {
		t.Fatal(err)
	}
	var folders []string
	for _, file := range files {
		folder := filepath.Base(filepath.Dir(file))
		if strings.HasSuffix(file, "_test.go") || strange(folder) {
			continue
		}
		folders = append(folders, folder)
		for _, path := range imports(t, file) {
			if !strings.HasPrefix(path, "catchbolt/") && !slices.Contains(library, path) {
				t.Errorf("%s imports %s", file, path)
			}
		}
	}
	if folders = slices.Compact(folders); len(folders) < 29 { // the layers', api, and the tests' own
		t.Error("packages:", folders)
	}
}
