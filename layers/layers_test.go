// Package layers has a test of all layers: on which packages each stands.
package layers

import (
	"go/parser"
	"go/token"
	"path/filepath"
	"slices"
	"strconv"
	"strings"
	"testing"
)

// below has the layers that each one calls, beside api: the document's map.
func below() map[string]string {
	return map[string]string{
		"api":      "",
		"octets":   "",
		"edges":    "octets",
		"disk":     "",
		"block":    "octets",
		"lru":      "",
		"pool":     "disk lru",
		"heap":     "",
		"runs":     "heap",
		"record":   "octets disk block",
		"extsort":  "disk heap runs record",
		"part":     "",
		"shard":    "edges disk record extsort part",
		"trace":    "edges runs",
		"mailbox":  "disk runs record",
		"state":    "octets block",
		"manifest": "octets block trace",
		"commit":   "disk shard state manifest",
		"step":     "disk shard trace mailbox",
		"engine":   "edges disk part shard trace commit step",
		"script":   "disk engine",
	}
}

// library has the packages that the language of the program allows.
const library = "bytes cmp container/heap errors iter maps math math/bits slices sort strconv strings sync sync/atomic unicode unicode/utf8"

func TestImports(t *testing.T) {
	for layer, calls := range below() {
		may := strings.Fields(library)
		for _, name := range append(strings.Fields(calls), "api") {
			may = append(may, "cartage/"+name)
		}
		files := sources(t, layer)
		if len(files) == 0 {
			t.Errorf("layer %s has no files", layer)
		}
		for _, file := range files {
			for _, path := range imports(t, file) {
				if !slices.Contains(may, path) {
					t.Errorf("%s imports %s", file, path)
				}
			}
		}
	}
}

func sources(t *testing.T, layer string) []string {
	files, err := filepath.Glob(filepath.Join("..", layer, "*.go"))
	if err != nil {
		t.Fatal(err)
	}
	return slices.DeleteFunc(files, func(file string) bool { return strings.HasSuffix(file, "_test.go") })
}

func imports(t *testing.T, file string) []string {
	f, err := parser.ParseFile(token.NewFileSet(), file, nil, parser.ImportsOnly)
	if err != nil {
		t.Fatal(err)
	}
	var paths []string
	for _, spec := range f.Imports {
		path, err := strconv.Unquote(spec.Path.Value)
		if err != nil {
			t.Fatal(err)
		}
		paths = append(paths, path)
	}
	return paths
}
