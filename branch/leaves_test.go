package branch_test

import (
	"go/ast"
	"go/parser"
	"go/token"
	"io/fs"
	"math/big"
	"strconv"
	"strings"
	"testing"

	"vertex/api"
	"vertex/branch"
)

// chain is a tree of so many splits, each of them one of the last one's parts: of a variable from 0 up to that number, cut at 0, 1, 2 and so on, or, if it goes to the left, from the top down. All its leaves are of one certificate.
func chain(splits int, toLeft bool, c api.Cert) (tree []api.Node) {
	for k := range splits {
		n := api.Node{Split: true, At: fromBigInt(big.NewInt(int64(k))), Left: 2*k + 1, Right: 2*k + 2}
		tree = append(tree, n, leaf(c))
		if toLeft {
			tree[2*k].At, tree[2*k].Left, tree[2*k].Right = fromBigInt(big.NewInt(int64(splits-1-k))), 2*k+2, 2*k+1
		}
	}
	return append(tree, leaf(c))
}

// nowhere is a problem without points, of a variable from 0 up to a number: a row without terms says so.
func nowhere(last int) api.Problem {
	return api.Problem{Vars: []api.Var{{Lo: has("0"), Hi: has(strconv.Itoa(last)), Whole: true}}, Rows: []api.Row{{Lo: has("1")}}}
}

// P18.6, R1: trees that are as deep as can be, to either side; a leaf that is wrong is found wherever it stands.
func TestDeepTrees(t *testing.T) {
	const splits = 1<<16 - 1
	p := nowhere(splits)
	for _, toLeft := range []bool{false, true} {
		s := api.Search{Verdict: api.Infeasible, Tree: chain(splits, toLeft, infeasible("1"))}
		if err := branch.Check(p, s); err != nil {
			t.Errorf("to the left %v: %v", toLeft, err)
		}
		for _, place := range []int{1, splits, 2 * splits} {
			right := s.Tree[place]
			s.Tree[place] = leaf(infeasible("-1"))
			if err := branch.Check(p, s); err != api.ErrBound {
				t.Errorf("to the left %v, leaf %d: %v", toLeft, place, err)
			}
			s.Tree[place] = right
		}
	}
}

// Ways: behind the first leaf that is wrong none is asked: what Check does then hangs not on how many are to come.
func TestLeftEarly(t *testing.T) {
	effort := func(splits int, wrong int, want error) float64 {
		p := nowhere(splits)
		s := api.Search{Verdict: api.Infeasible, Tree: chain(splits, false, infeasible("1"))}
		if wrong >= 0 {
			s.Tree[wrong] = leaf(infeasible("-1"))
		}
		if err := branch.Check(p, s); err != want {
			t.Fatalf("%d splits, leaf %d: %v, want %v", splits, wrong, err, want)
		}
		return testing.AllocsPerRun(20, func() { branch.Check(p, s) })
	}
	few, many := effort(5, 1, api.ErrBound), effort(500, 1, api.ErrBound)
	// A list more may lie in other memory where it is longer.
	if many > few+3 {
		t.Errorf("%v pieces of memory of a tree of 5 splits, %v of 500", few, many)
	}
	all, last := effort(500, -1, nil), effort(500, 999, api.ErrBound)
	if all < 50*many || last < 50*many {
		t.Errorf("%v pieces of memory for all leaves, %v up to the last one, but %v for the first", all, last, many)
	}
}

// sources are the functions of the package's own files, by name.
func sources(t *testing.T) map[string]*ast.FuncDecl {
	t.Helper()
	packs, err := parser.ParseDir(token.NewFileSet(), ".", func(f fs.FileInfo) bool { return !strings.HasSuffix(f.Name(), "_test.go") }, 0)
	if err != nil {
		t.Fatal(err)
	}
	functions := map[string]*ast.FuncDecl{}
	for _, pack := range packs {
		for _, file := range pack.Files {
			for _, d := range file.Decls {
				if f, ok := d.(*ast.FuncDecl); ok {
					functions[f.Name.Name] = f
				}
			}
		}
	}
	return functions
}

// givesSequence tells whether a function answers one to be ranged over.
func givesSequence(f *ast.FuncDecl) bool {
	found := false
	if f != nil && f.Type.Results != nil {
		ast.Inspect(f.Type.Results, func(n ast.Node) bool {
			if s, ok := n.(*ast.SelectorExpr); ok && strings.HasPrefix(s.Sel.Name, "Seq") {
				found = true
			}
			return true
		})
	}
	return found
}

// calledIn are the names of what is called in a function, and whether it ranges over what one of them answers.
func calledIn(f *ast.FuncDecl, functions map[string]*ast.FuncDecl) (names []string, ranges bool) {
	ast.Inspect(f, func(n ast.Node) bool {
		switch x := n.(type) {
		case *ast.RangeStmt:
			if c, ok := x.X.(*ast.CallExpr); ok {
				if name, ok := c.Fun.(*ast.Ident); ok && givesSequence(functions[name.Name]) {
					ranges = true
				}
			}
		case *ast.CallExpr:
			if name, ok := x.Fun.(*ast.Ident); ok && functions[name.Name] != nil {
				names = append(names, name.Name)
			}
		}
		return true
	})
	return names, ranges
}

// Ways: the leaves come out of a function that Check ranges over.
func TestCheckRangesOverAFunction(t *testing.T) {
	functions := sources(t)
	seen, ahead := map[string]bool{}, []string{"Check"}
	for len(ahead) > 0 {
		name := ahead[0]
		ahead = ahead[1:]
		if seen[name] {
			continue
		}
		seen[name] = true
		more, ranges := calledIn(functions[name], functions)
		if ranges {
			return
		}
		ahead = append(ahead, more...)
	}
	t.Error("nothing that Check calls ranges over a function")
}
