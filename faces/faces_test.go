// Package faces holds the layers' exported types and functions against those that the chapters list.
package faces

import (
	"iter"
	"testing"

	"scarf/api"
	"scarf/chunk"
	"scarf/class"
	"scarf/doc"
	"scarf/driver"
	"scarf/fact"
	"scarf/layout"
	"scarf/lex"
	"scarf/line"
	"scarf/mark"
	"scarf/match"
	"scarf/meld"
	"scarf/merge"
	"scarf/myers"
	"scarf/parse"
	"scarf/print"
	"scarf/rank"
	"scarf/report"
	"scarf/script"
	"scarf/shape"
	"scarf/tree"
	"scarf/unit"
	"scarf/utf"
)

// A type that has other fields than these can't be converted.
var (
	_ = struct {
		Kind        int
		Text, Trail string
		Kids        []api.Node
	}(api.Node{})
	_ = struct {
		Kind  int
		Text  string
		At    int
		First bool
	}(lex.Token{})
	_ = struct {
		Kind int
		Text string
	}(doc.Piece{})
	_ = struct {
		Nodes        []api.Node
		Parent, Size []int
		Kids         [][]int
	}(shape.Plan{})
	_ = struct {
		Sort, Class, A, B, Kind int
		Text, Trail             string
	}(fact.Fact{})
	_ = struct {
		Sort, Id, Parent, After, Kind int
		Text, Trail                   string
	}(script.Edit{})
	_ = struct {
		Sort    int
		B, O, T [2]int
	}(chunk.Chunk{})
	_ = struct {
		Region bool
		Text   []byte
		Sides  [3][]byte
	}(mark.Part{})
	_ = struct {
		Clean bool
		Items []api.Node
		Sides [3][]api.Node
	}(unit.Unit{})
	_ = struct {
		Width, Mark int
		Labels      [3]string
	}(driver.Options{})
	_ = struct {
		Status     int
		Structural bool
		Regions    int
		Out        []byte
	}(driver.Result{})
)

// Layers 1 to 6.
var (
	_ func([]byte) (int, int)                          = utf.Next
	_ func(int) ([]byte, api.Errno)                    = utf.Bytes
	_ func([]byte) bool                                = utf.Text
	_ func([]byte) ([]int, api.Errno)                  = utf.Signs
	_ func([]byte) int                                 = utf.Bad
	_ func([]byte) [][]byte                            = line.Split
	_ func(...[]byte) []byte                           = line.Join
	_ func([]byte) []int                               = line.Starts
	_ func([]int, int) (int, int)                      = line.Place
	_ func([]string, func(a, b string) bool) []int     = rank.By[string]
	_ func([]int) []int                                = rank.Ints
	_ func([]string) []int                             = rank.Texts
	_ func([]int, int) int                             = rank.Place
	_ func(*rank.Table[string], string) int            = (*rank.Table[string]).Add
	_ func(*rank.Table[string], int) (string, bool)    = (*rank.Table[string]).At
	_ func(*rank.Table[string]) int                    = (*rank.Table[string]).Len
	_ func(*rank.Table[string]) iter.Seq2[int, string] = (*rank.Table[string]).All
	_ func([]byte) ([]lex.Token, int, api.Errno)       = lex.Tokens
	_ func(string) bool                                = lex.Word
	_ func(string) bool                                = lex.Name
	_ func(api.Node) bool                              = tree.Right
	_ func(a, b api.Node) bool                         = tree.Same
	_ func(api.Node) int                               = tree.Size
	_ func(api.Node) api.Node                          = tree.Copy
	_ func(string) int                                 = tree.Level
	_ func(api.Node, int) bool                         = tree.Paren
	_ func(api.Node) iter.Seq2[int, api.Node]          = tree.All
	_ func([]byte) (api.Node, int, api.Errno)          = parse.Parse
)

// Layers 7 to 15.
var (
	_ func(string) doc.Doc                                           = doc.Text
	_ func() doc.Doc                                                 = doc.Line
	_ func() doc.Doc                                                 = doc.Soft
	_ func() doc.Doc                                                 = doc.Hard
	_ func(doc.Doc) doc.Doc                                          = doc.Nest
	_ func(doc.Doc) doc.Doc                                          = doc.Group
	_ func(...doc.Doc) doc.Doc                                       = doc.Row
	_ func(doc.Doc, ...doc.Doc) doc.Doc                              = doc.Join
	_ func(doc.Doc) []doc.Piece                                      = doc.Doc.Plain
	_ func(doc.Doc) (string, bool)                                   = doc.Doc.Flat
	_ func(doc.Doc, int) (string, api.Errno)                         = layout.Of
	_ func(string) int                                               = layout.Width
	_ func(api.Node) (doc.Doc, api.Errno)                            = print.Doc
	_ func(api.Node, int) (string, api.Errno)                        = print.Print
	_ func(api.Node, int) (string, api.Errno)                        = print.Item
	_ func(a, b api.Node) int                                        = print.Gap
	_ func([]byte, int) (string, int, api.Errno)                     = print.Format
	_ func(api.Node) shape.Plan                                      = shape.Of
	_ func(...api.Node) [][]int                                      = shape.Marks
	_ func(shape.Plan) api.Node                                      = shape.Tree
	_ func(a, b api.Node) ([][2]int, api.Errno)                      = match.Of
	_ func(a, b api.Node, l [][2]int) bool                           = match.Right
	_ func(b, o, t api.Node) ([3][]int, api.Errno)                   = class.Of
	_ func(x, y fact.Fact) bool                                      = fact.Less
	_ func(api.Node, []int) ([]fact.Fact, api.Errno)                 = fact.Of
	_ func([]fact.Fact) (api.Node, []int, api.Errno)                 = fact.Tree
	_ func([]fact.Fact) []fact.Fact                                  = fact.Set
	_ func(a, b []fact.Fact) []fact.Fact                             = fact.Both
	_ func(a, b []fact.Fact) []fact.Fact                             = fact.Minus
	_ func(a, b []fact.Fact) []fact.Fact                             = fact.Any
	_ func(b, o, t []fact.Fact) []fact.Fact                          = meld.Of
	_ func([]fact.Fact) (api.Node, bool)                             = meld.Sound
	_ func(b, o, t api.Node) (api.Node, bool, api.Errno)             = meld.Merge
	_ func(api.Node, []script.Edit) (api.Node, int, api.Errno)       = script.Apply
	_ func(a, b api.Node, pairs [][2]int) ([]script.Edit, api.Errno) = script.Of
)

// Layers 16 to 22.
var (
	_ func(a, b []int) ([][2]int, api.Errno)                                              = myers.Of
	_ func(a, b []int, l [][2]int) bool                                                   = myers.Right
	_ func(...[][]byte) [][]int                                                           = myers.Numbers
	_ func(b, o, t []int, mo, mt [][2]int) ([]chunk.Chunk, api.Errno)                     = chunk.Of
	_ func(string) string                                                                 = mark.Label
	_ func(int, ...[]byte) int                                                            = mark.Length
	_ func(int, [3]string, []mark.Part) ([]byte, api.Errno)                               = mark.Write
	_ func(int, []byte) ([]mark.Part, api.Errno)                                          = mark.Read
	_ func([]mark.Part, int) []byte                                                       = mark.Pick
	_ func(b, o, t api.Node) ([]unit.Unit, api.Errno)                                     = unit.Of
	_ func([]unit.Unit, int) []api.Node                                                   = unit.Pick
	_ func(b, o, t api.Node, width, least int, labels [3]string) ([]byte, int, api.Errno) = merge.Of
	_ func([]api.Node, int) ([]byte, api.Errno)                                           = merge.Text
	_ func([]script.Edit) string                                                          = report.Text
	_ func(string) ([]script.Edit, int, api.Errno)                                        = report.Read
	_ func(a, b []byte) (string, api.Errno)                                               = report.Diff
	_ func([]byte, string, int) (string, api.Errno)                                       = report.Patch
	_ func(base, ours, theirs []byte, o driver.Options) driver.Result                     = driver.Merge
	_ func(base, ours, theirs []byte, mark int, labels [3]string) ([]byte, int)           = driver.Lines
	_ func([]byte, int) (string, int, api.Errno)                                          = driver.Format
	_ func(a, b []byte) (string, api.Errno)                                               = driver.Diff
)

func TestNumbers(t *testing.T) {
	for want, kind := range []int{lex.WordKind, lex.Number, lex.String, lex.Mark, lex.Remark, lex.End} {
		if kind != want+1 {
			t.Errorf("kind of token %d is %d", want+1, kind)
		}
	}
	for want, status := range []int{driver.Clean, driver.Conflicts, driver.TooLarge, driver.BadOptions} {
		if status != want {
			t.Errorf("status %d is %d", want, status)
		}
	}
}
