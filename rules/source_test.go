// Package rules tests what the document asks of the program's text: which packages call which, and which of the language's ways they lean on.
package rules

import (
	"go/ast"
	"go/parser"
	"go/token"
	"go/types"
	"os"
	"path/filepath"
	"slices"
	"strconv"
	"strings"
	"testing"
)

// root is the project's folder.
const root = ".."

// calls is the document's map: each layer, and those that it calls. (Package api is everybody's.) Package directory stands beside the map, for what layers 27 and 28 have in common.
var calls = map[string]string{
	"api":        "",
	"gf":         "",
	"poly":       "gf",
	"linear":     "gf",
	"systematic": "poly",
	"welch":      "gf linear poly",
	"crc":        "",
	"little":     "",
	"bits":       "",
	"lengths":    "",
	"canon":      "bits lengths",
	"symbol":     "",
	"inflate":    "bits canon little symbol",
	"match":      "",
	"block":      "bits canon lengths little symbol",
	"deflate":    "bits block match",
	"name":       "",
	"stamp":      "",
	"local":      "little name stamp",
	"central":    "little local name stamp",
	"tail":       "little",
	"volume":     "",
	"span":       "little",
	"stripe":     "little systematic",
	"seal":       "crc little stripe",
	"damage":     "crc seal stripe",
	"mend":       "damage seal stripe systematic welch",
	"directory":  "central local tail volume",
	"extract":    "central crc inflate little local tail volume directory",
	"rebuild":    "central crc deflate extract local name span tail volume directory",
	"archive":    "central damage extract mend name rebuild span stamp stripe volume",
}

// library is what of Go's own library the program may lean on.
const library = " bytes cmp container/heap errors iter maps math math/bits slices sort strconv strings sync sync/atomic unicode unicode/utf8 "

// parsed are the files of packages that were parsed before, so that each has its nodes once; places tells where they stand.
var (
	parsed = map[string][]*ast.File{}
	places = token.NewFileSet()
)

// parse is the files of a package that aren't tests.
func parse(t *testing.T, pack string) []*ast.File {
	t.Helper()
	if parsed[pack] != nil {
		return parsed[pack]
	}
	paths, err := filepath.Glob(filepath.Join(root, pack, "*.go"))
	if err != nil {
		t.Fatal(err)
	}
	var files []*ast.File
	for _, path := range paths {
		if strings.HasSuffix(path, "_test.go") {
			continue
		}
		file, err := parser.ParseFile(places, path, nil, parser.ParseComments)
		if err != nil {
			t.Fatal(err)
		}
		files = append(files, file)
	}
	if len(files) == 0 {
		t.Fatalf("package %s has no files", pack)
	}
	parsed[pack] = files
	return files
}

// mayImport tells whether a layer may lean on a package.
func mayImport(pack, path string) bool {
	own, ok := strings.CutPrefix(path, "footlocker/")
	if !ok {
		return strings.Contains(library, " "+path+" ")
	}
	_, layer := calls[own]
	return !layer || own == "api" || slices.Contains(strings.Fields(calls[pack]), own)
}

func TestLayersCallThoseBelow(t *testing.T) {
	for pack := range calls {
		for _, file := range parse(t, pack) {
			for _, spec := range file.Imports {
				path, err := strconv.Unquote(spec.Path.Value)
				if err != nil || !mayImport(pack, path) {
					t.Errorf("package %s imports %s", pack, spec.Path.Value)
				}
			}
		}
	}
}

func TestNoCompilerDirectives(t *testing.T) {
	for pack := range calls {
		for _, file := range parse(t, pack) {
			for _, group := range file.Comments {
				for _, c := range group.List {
					if strings.HasPrefix(c.Text, "//go:") || strings.HasPrefix(c.Text, "// +build") {
						t.Errorf("package %s: %s", pack, c.Text)
					}
				}
			}
		}
	}
}

func TestNoFilesBesideGo(t *testing.T) {
	for pack := range calls {
		entries, err := os.ReadDir(filepath.Join(root, pack))
		if err != nil {
			t.Fatal(err)
		}
		for _, x := range entries {
			if !strings.HasSuffix(x.Name(), ".go") {
				t.Errorf("package %s has %s", pack, x.Name())
			}
		}
	}
}

// receiver is the name of the type that a method is of, or none.
func receiver(f *ast.FuncDecl) string {
	if f.Recv == nil {
		return ""
	}
	of := f.Recv.List[0].Type
	if star, ok := of.(*ast.StarExpr); ok {
		of = star.X
	}
	if name, ok := of.(*ast.Ident); ok {
		return name.Name
	}
	return ""
}

// bodies is a package's functions, types and variables, by their names. A method has two: its own, and that behind its type's and a dot.
func bodies(t *testing.T, pack string) map[string][]ast.Node {
	t.Helper()
	all := map[string][]ast.Node{}
	for _, file := range parse(t, pack) {
		for _, d := range file.Decls {
			switch x := d.(type) {
			case *ast.FuncDecl:
				all[x.Name.Name] = append(all[x.Name.Name], x)
				if of := receiver(x); of != "" {
					all[of+"."+x.Name.Name] = []ast.Node{x}
				}
			case *ast.GenDecl:
				for _, spec := range x.Specs {
					switch v := spec.(type) {
					case *ast.ValueSpec:
						if x.Tok == token.VAR {
							all[v.Names[0].Name] = []ast.Node{v}
						}
					case *ast.TypeSpec:
						all[v.Name.Name] = append(all[v.Name.Name], v)
					}
				}
			}
		}
	}
	return all
}

// function is a function (or a method) of a package, and those functions, methods, types and variables of the package that it names.
func function(t *testing.T, pack, name string) []ast.Node {
	t.Helper()
	named := bodies(t, pack)
	var reached []ast.Node
	var reach func(name string)
	reach = func(name string) {
		for _, f := range named[name] {
			if slices.Contains(reached, f) {
				continue
			}
			reached = append(reached, f)
			ast.Inspect(f, func(n ast.Node) bool {
				if id, ok := n.(*ast.Ident); ok {
					reach(id.Name)
				}
				return true
			})
		}
	}
	reach(name)
	if len(reached) == 0 {
		t.Fatalf("package %s has no %s", pack, name)
	}
	return reached
}

// has tells whether what is asked for stands in one of the nodes.
func has(nodes []ast.Node, is func(ast.Node) bool) bool {
	found := false
	for _, n := range nodes {
		ast.Inspect(n, func(n ast.Node) bool {
			found = found || n != nil && is(n)
			return !found
		})
	}
	return found
}

// own finds the project's packages; those of Go's library aren't looked for.
type own struct {
	t     *testing.T
	found map[string]*types.Package
}

func (o own) Import(path string) (*types.Package, error) {
	pack, ok := strings.CutPrefix(path, "footlocker/")
	if !ok {
		return nil, os.ErrNotExist
	}
	if o.found[pack] == nil {
		lenient := types.Config{Importer: o, Error: func(error) {}}
		o.found[pack], _ = lenient.Check(path, places, parse(o.t, pack), nil)
	}
	return o.found[pack], nil
}

// typesOf tells of what types a package's expressions are, as far as that hangs on the project alone.
func typesOf(t *testing.T, pack string) map[ast.Expr]types.TypeAndValue {
	t.Helper()
	info := types.Info{Types: map[ast.Expr]types.TypeAndValue{}}
	lenient := types.Config{Importer: own{t, map[string]*types.Package{}}, Error: func(error) {}}
	lenient.Check(pack, places, parse(t, pack), &info) // its error is of what is imported
	return info.Types
}

// isIntegerRange: a range over an integer, of whatever kind.
func isIntegerRange(of map[ast.Expr]types.TypeAndValue) func(ast.Node) bool {
	return func(n ast.Node) bool {
		r, ok := n.(*ast.RangeStmt)
		if !ok || of[r.X].Type == nil {
			return false
		}
		basic, ok := of[r.X].Type.Underlying().(*types.Basic)
		return ok && basic.Info()&types.IsInteger != 0
	}
}

// isTextRange: a range over a string, rune by rune.
func isTextRange(of map[ast.Expr]types.TypeAndValue) func(ast.Node) bool {
	return func(n ast.Node) bool {
		r, ok := n.(*ast.RangeStmt)
		if !ok || of[r.X].Type == nil {
			return false
		}
		basic, ok := of[r.X].Type.Underlying().(*types.Basic)
		return ok && basic.Info()&types.IsString != 0
	}
}

// isMapByText: the type of a map by strings. Its values are neither bools nor strings, for such maps aren't made and asked in one call.
func isMapByText(n ast.Node) bool {
	m, ok := n.(*ast.MapType)
	if !ok {
		return false
	}
	key, ok := m.Key.(*ast.Ident)
	if !ok || key.Name != "string" {
		return false
	}
	value, ok := m.Value.(*ast.Ident)
	return !ok || value.Name != "bool" && value.Name != "string"
}

// isMapByNumber: the type of a map from numbers to numbers.
func isMapByNumber(n ast.Node) bool {
	m, ok := n.(*ast.MapType)
	if !ok {
		return false
	}
	key, ok := m.Key.(*ast.Ident)
	value, sure := m.Value.(*ast.Ident)
	return ok && sure && key.Name == "int" && value.Name == "uint64"
}

// isTypeSwitch: a switch by the type of a value.
func isTypeSwitch(n ast.Node) bool {
	_, ok := n.(*ast.TypeSwitchStmt)
	return ok
}

// isCallIn: a call of a function of another package.
func isCallIn(pack, name string) func(ast.Node) bool {
	return func(n ast.Node) bool {
		call, ok := n.(*ast.CallExpr)
		if !ok {
			return false
		}
		f, ok := call.Fun.(*ast.SelectorExpr)
		if !ok {
			return false
		}
		of, ok := f.X.(*ast.Ident)
		return ok && of.Name == pack && f.Sel.Name == name
	}
}

// isArray: a type with a length of its own.
func isArray(n ast.Node) bool {
	a, ok := n.(*ast.ArrayType)
	return ok && a.Len != nil
}

// isCountedRange: a range over a number, or over a name that is a constant.
func isCountedRange(n ast.Node) bool {
	r, ok := n.(*ast.RangeStmt)
	if !ok || r.Value != nil {
		return false
	}
	switch x := r.X.(type) {
	case *ast.BasicLit:
		return x.Kind == token.INT
	case *ast.Ident:
		return x.Obj != nil && x.Obj.Kind == ast.Con
	}
	return false
}

// isCopy: a call that answers, or makes, a copy.
func isCopy(n ast.Node) bool {
	call, ok := n.(*ast.CallExpr)
	if !ok {
		return false
	}
	switch f := call.Fun.(type) {
	case *ast.Ident:
		return f.Name == "copy"
	case *ast.SelectorExpr:
		return f.Sel.Name == "Clone"
	}
	return false
}

// isClosure: a function that is written within another.
func isClosure(n ast.Node) bool {
	_, ok := n.(*ast.FuncLit)
	return ok
}

// isThreeIndexSlice: a piece whose room is told, too.
func isThreeIndexSlice(n ast.Node) bool {
	s, ok := n.(*ast.SliceExpr)
	return ok && s.Slice3
}

// isTableOf: a variable of a package that is written out, of so many numbers.
func isTableOf(count int) func(ast.Node) bool {
	return func(n ast.Node) bool {
		v, ok := n.(*ast.ValueSpec)
		if !ok || len(v.Values) != 1 {
			return false
		}
		table, ok := v.Values[0].(*ast.CompositeLit)
		return ok && len(table.Elts) == count
	}
}

// isCallRange: a range over what a call answers that isn't one of the language's own, which answer numbers.
func isCallRange(n ast.Node) bool {
	r, ok := n.(*ast.RangeStmt)
	if !ok {
		return false
	}
	call, ok := r.X.(*ast.CallExpr)
	if !ok {
		return false
	}
	name, ok := call.Fun.(*ast.Ident)
	return !ok || !slices.Contains([]string{"len", "cap", "min", "max"}, name.Name)
}

// isCallOf: a call of one of the language's own functions.
func isCallOf(name string) func(ast.Node) bool {
	return func(n ast.Node) bool {
		call, ok := n.(*ast.CallExpr)
		if !ok {
			return false
		}
		f, ok := call.Fun.(*ast.Ident)
		return ok && f.Name == name
	}
}

// isSureAssertion: an assignment by an assertion that isn't asked whether it holds, so that it panics if it doesn't.
func isSureAssertion(n ast.Node) bool {
	assign, ok := n.(*ast.AssignStmt)
	return ok && len(assign.Lhs) == len(assign.Rhs) && slices.ContainsFunc(assign.Rhs, func(x ast.Expr) bool {
		_, ok := x.(*ast.TypeAssertExpr)
		return ok
	})
}

// isDeferredCatch: a closure that is deferred, recovers, and asserts what it was.
func isDeferredCatch(n ast.Node) bool {
	d, ok := n.(*ast.DeferStmt)
	if !ok || !isClosure(d.Call.Fun) {
		return false
	}
	within := []ast.Node{d.Call.Fun}
	return has(within, isCallOf("recover")) && has(within, isSureAssertion)
}

// isVariadicClosure: a closure that is called with as many numbers as there are.
func isVariadicClosure(n ast.Node) bool {
	f, ok := n.(*ast.FuncLit)
	if !ok || len(f.Type.Params.List) == 0 {
		return false
	}
	_, ok = f.Type.Params.List[len(f.Type.Params.List)-1].Type.(*ast.Ellipsis)
	return ok
}

// isEmbedding: a struct with a field that has no name of its own, of a type of another package.
func isEmbedding(n ast.Node) bool {
	s, ok := n.(*ast.StructType)
	return ok && slices.ContainsFunc(s.Fields.List, func(f *ast.Field) bool {
		_, ok := f.Type.(*ast.SelectorExpr)
		return ok && len(f.Names) == 0
	})
}

// isPromoted: a field asked of a struct of that name, which has it by embedding alone.
func isPromoted(of map[ast.Expr]types.TypeAndValue, name string) func(ast.Node) bool {
	return func(n ast.Node) bool {
		x, ok := n.(*ast.SelectorExpr)
		if !ok {
			return false
		}
		named, ok := of[x.X].Type.(*types.Named)
		if !ok || named.Obj().Name() != name {
			return false
		}
		s, ok := named.Underlying().(*types.Struct)
		for i := 0; ok && i < s.NumFields(); i++ {
			ok = s.Field(i).Name() != x.Sel.Name
		}
		return ok
	}
}

// isComparedStruct: structs of that name, of whatever package, that are held against each other as a whole.
func isComparedStruct(of map[ast.Expr]types.TypeAndValue, name string) func(ast.Node) bool {
	return func(n ast.Node) bool {
		x, ok := n.(*ast.BinaryExpr)
		if !ok || x.Op != token.EQL && x.Op != token.NEQ {
			return false
		}
		named, ok := of[x.X].Type.(*types.Named)
		if !ok || named.Obj().Name() != name {
			return false
		}
		_, ok = named.Underlying().(*types.Struct)
		return ok
	}
}

// isGenericOf: a generic function whose numbers are of one of so many kinds.
func isGenericOf(kinds int) func(ast.Node) bool {
	return func(n ast.Node) bool {
		f, ok := n.(*ast.FuncDecl)
		if !ok || f.Type.TypeParams == nil {
			return false
		}
		count := 1
		has([]ast.Node{f.Type.TypeParams}, func(n ast.Node) bool {
			if or, ok := n.(*ast.BinaryExpr); ok && or.Op == token.OR {
				count++
			}
			return false
		})
		return count == kinds
	}
}

// takesFunction: a function that one is handed in to.
func takesFunction(of map[ast.Expr]types.TypeAndValue) func(ast.Node) bool {
	return func(n ast.Node) bool {
		f, ok := n.(*ast.FuncDecl)
		return ok && slices.ContainsFunc(f.Type.Params.List, func(p *ast.Field) bool {
			if of[p.Type].Type == nil {
				return false
			}
			_, ok := of[p.Type].Type.Underlying().(*types.Signature)
			return ok
		})
	}
}

func TestWaysOfStage1(t *testing.T) {
	if !has(function(t, "poly", "Through"), isArray) {
		t.Error("poly: which bytes stand twice isn't an array")
	}
	for _, name := range []string{"Log", "Pow", "Exp"} {
		if !has(function(t, "gf", name), isCountedRange) {
			t.Errorf("gf: %s doesn't go through powers by a range over an integer", name)
		}
	}
	if !has(function(t, "poly", "Add"), isCopy) {
		t.Error("poly: a sum doesn't begin as a copy")
	}
}

func TestWaysOfStage2(t *testing.T) {
	if !has(function(t, "linear", "Reduce"), isClosure) {
		t.Error("linear: the row that comes up isn't found by a closure")
	}
}

func TestWaysOfStage3(t *testing.T) {
	if !has(function(t, "welch", "Decode"), isThreeIndexSlice) {
		t.Error("welch: a polynomial isn't cut by a three-index slice")
	}
	for _, name := range []string{"Sum", "Update"} {
		if !has(function(t, "crc", name), isTableOf(16)) {
			t.Errorf("crc: %s doesn't tell what four bits come to by a constant table", name)
		}
	}
	if !has(function(t, "crc", "Blocks"), isCallRange) {
		t.Error("crc: blocks don't come by a range over a function")
	}
}

func TestWaysOfStage4(t *testing.T) {
	for pack, names := range map[string][]string{
		"little": {"Put", "Get", "Reader.Num"},
		"bits":   {"Writer.Put", "Writer.Code", "Reader.Get", "Reader.Bit"},
	} {
		is := isIntegerRange(typesOf(t, pack))
		for _, name := range names {
			if !has(function(t, pack, name), is) {
				t.Errorf("%s: %s doesn't go through bits or bytes by a range over an integer", pack, name)
			}
		}
	}
}

func TestWaysOfStage5(t *testing.T) {
	for _, name := range []string{"Codes", "New"} {
		if !has(function(t, "canon", name), isArray) {
			t.Errorf("canon: %s's first codes aren't an array by their lengths", name)
		}
	}
	for pack, names := range map[string][]string{
		"lengths": {"Make", "Fit"},
		"canon":   {"Codes", "New"},
	} {
		for _, name := range names {
			if !has(function(t, pack, name), isClosure) {
				t.Errorf("%s: %s doesn't find wrong numbers by a closure", pack, name)
			}
		}
	}
	if !has(function(t, "lengths", "Make"), isCallRange) {
		t.Error("lengths: pairs don't come by a range over a function")
	}
}

func TestWaysOfStage6(t *testing.T) {
	for name, count := range map[string]int{"Length": 29, "LengthBase": 29, "Dist": 30, "DistBase": 30} {
		if !has(function(t, "symbol", name), isTableOf(count)) {
			t.Errorf("symbol: %s's bases aren't a constant table", name)
		}
	}
	for _, name := range []string{"Unpack", "All"} {
		reached := function(t, "inflate", name)
		if !has(reached, isCallOf("panic")) {
			t.Errorf("inflate: %s doesn't give up by panic", name)
		}
		if !has(reached, isDeferredCatch) {
			t.Errorf("inflate: %s doesn't catch that by recover and an assertion in a deferred call", name)
		}
	}
}

func TestWaysOfStage7(t *testing.T) {
	find := function(t, "match", "Find")
	if !has(find, isArray) {
		t.Error("match: heads of chains aren't an array")
	}
	if !has(find, isIntegerRange(typesOf(t, "match"))) {
		t.Error("match: places aren't looked at by a range over an integer")
	}
	for pack, names := range map[string][]string{"match": {"Expand"}, "block": {"Fixed", "FixedBits", "Dynamic"}} {
		for _, name := range names {
			if !has(function(t, pack, name), isClosure) {
				t.Errorf("%s: %s doesn't find wrong tokens by a closure", pack, name)
			}
		}
	}
}

func TestWaysOfStage8(t *testing.T) {
	is := isTextRange(typesOf(t, "name"))
	for _, name := range []string{"Check", "Parts", "Runes", "Under"} {
		if !has(function(t, "name", name), is) {
			t.Errorf("name: %s doesn't go through a name rune by rune, by a range over a string", name)
		}
	}
	for _, name := range []string{"Check", "Parts", "Under"} {
		if !has(function(t, "name", name), isCallRange) {
			t.Errorf("name: %s's parts don't come by a range over a function", name)
		}
	}
	if !has(function(t, "name", "Twice"), isMapByText) {
		t.Error("name: names that were there aren't a map")
	}
}

func TestWaysOfStage9(t *testing.T) {
	for _, name := range []string{"Days", "Check", "Pack", "Unpack"} {
		if !has(function(t, "stamp", name), isTableOf(12)) {
			t.Errorf("stamp: %s doesn't tell how many days months have by a constant table", name)
		}
	}
}

func TestWaysOfStage10(t *testing.T) {
	is := isPromoted(typesOf(t, "central"), "Record")
	for _, name := range []string{"Size", "Write", "Parse"} {
		reached := function(t, "central", name)
		if !has(reached, isEmbedding) {
			t.Errorf("central: %s's records don't have a header by embedding", name)
		}
		if !has(reached, is) {
			t.Errorf("central: %s doesn't ask for a header's fields as they're promoted", name)
		}
	}
	for pack, names := range map[string][]string{"central": {"Write", "Parse"}, "tail": {"Great", "Locator", "End"}} {
		for _, name := range names {
			if !has(function(t, pack, name), isVariadicClosure) {
				t.Errorf("%s: %s's numbers aren't laid by a variadic call of a closure", pack, name)
			}
		}
	}
}

func TestWaysOfStage11(t *testing.T) {
	is := isComparedStruct(typesOf(t, "volume"), "Place")
	for _, name := range []string{"Index", "Rest"} {
		if !has(function(t, "volume", name), is) {
			t.Errorf("volume: %s doesn't tell the end by places that are compared as structs", name)
		}
	}
	for pack, name := range map[string]string{"volume": "Row", "span": "Go"} {
		if !has(function(t, pack, name), isClosure) {
			t.Errorf("%s: %s doesn't find empty volumes by a closure", pack, name)
		}
	}
}

func TestWaysOfStage12(t *testing.T) {
	if !has(function(t, "seal", "Write"), isGenericOf(2)) {
		t.Error("seal: numbers of either kind aren't laid by a generic function")
	}
	if !has(function(t, "stripe", "Volume"), isClosure) {
		t.Error("stripe: bytes that aren't 0 aren't found by a closure")
	}
}

func TestWaysOfStage13(t *testing.T) {
	is := takesFunction(typesOf(t, "mend"))
	for _, name := range []string{"Blind", "Sealed", "Best"} {
		reached := function(t, "mend", name)
		if !has(reached, is) || !has(reached, isClosure) {
			t.Errorf("mend: how %s tells a row isn't a closure that is handed in", name)
		}
	}
}

func TestWaysOfStage14(t *testing.T) {
	if !has(function(t, "extract", "Name"), isTypeSwitch) {
		t.Error("extract: what was read isn't told by a type switch")
	}
	if has(bodies(t, "extract")["Name"], isTypeSwitch) {
		t.Error("extract: Name itself switches by the type of what is handed in")
	}
	for pack, name := range map[string]string{"extract": "Tail", "rebuild": "Close"} {
		if !has(function(t, pack, name), isCallIn("directory", "Tail")) {
			t.Errorf("%s: %s doesn't count by package directory's Tail", pack, name)
		}
	}
	if !has(function(t, "directory", "Tail"), isMapByNumber) {
		t.Error("directory: how many records stand on each disk isn't a map")
	}
}

func TestWaysOfStage15(t *testing.T) {
	if !has(function(t, "archive", "Create"), isMapByText) {
		t.Error("archive: names that were there aren't a map")
	}
}
