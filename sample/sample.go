// Package sample has vocabularies, tables and texts of which the tests of several layers are made.
package sample

import (
	"math"
	"slices"
	"strings"

	"footbridge/api"
	"footbridge/vocab"
)

// Rows are the 256 bytes, and then these.
func Rows(more ...string) []api.Row {
	var rows []api.Row
	for b := range api.FirstMark {
		rows = append(rows, api.Row{Token: string([]byte{byte(b)}), Rank: b})
	}
	for n, token := range more {
		rows = append(rows, api.Row{Token: token, Rank: api.FirstMark + n})
	}
	return rows
}

// Tables are the 256 bytes, a token for each two that are told as "a+b", if they make a new one, and their pairs.
func Tables(both ...string) api.Tables {
	var more []string
	var pairs []api.Pair
	for _, told := range both {
		left, right, _ := strings.Cut(told, "+")
		pairs = append(pairs, api.Pair{Left: left, Right: right})
		if !slices.Contains(more, left+right) {
			more = append(more, left+right)
		}
	}
	return api.Tables{Rows: Rows(more...), Pairs: pairs}
}

// ByRank is the vocabulary of rows, that merge by rank; a zero one, if it may not be.
func ByRank(rows []api.Row, specials ...api.Special) api.Vocab {
	v, _ := vocab.FromRows(rows, specials)
	return v
}

// ByPairs is the vocabulary of tables, that merge by pairs; a zero one, if it may not be.
func ByPairs(t api.Tables, specials ...api.Special) api.Vocab {
	v, _ := vocab.FromTables(t, specials)
	return v
}

// Full is a vocabulary with as many tokens and merges as may be: 8 bytes' powers up to 64, one's up to 23, and others of two bytes.
func Full() api.Vocab {
	var more []string
	for b := range 8 {
		for n := 2; n <= api.MaxToken; n++ {
			more = append(more, strings.Repeat(string([]byte{byte('A' + b)}), n))
		}
	}
	for n := 2; n <= 23; n++ {
		more = append(more, strings.Repeat("Z", n))
	}
	return ByRank(Rows(append(more, "xy", "yz", "zx")...), api.Special{Name: "end", ID: api.MaxTokens - 1})
}

// Good is a vocabulary with three merges and two specials, that may be.
func Good() api.Vocab {
	return ByPairs(Tables("a+b", "ab+c", "b+c"), api.Special{Name: "bos", ID: 300}, api.Special{Name: "end", ID: 301})
}

// Wrong are vocabularies that may not be, each by another change of the good one.
func Wrong() map[string]api.Vocab {
	changes := map[string]func(v *api.Vocab){
		"none":              func(v *api.Vocab) { *v = api.Vocab{} },
		"no tokens":         func(v *api.Vocab) { v.Tokens = nil },
		"a byte lacks":      func(v *api.Vocab) { v.Tokens[120] = "" },
		"4097 tokens":       func(v *api.Vocab) { v.Tokens = append(v.Tokens, make([]string, 4097-len(v.Tokens))...) },
		"a long token":      func(v *api.Vocab) { v.Tokens[299] = strings.Repeat("a", 65) },
		"a token twice":     func(v *api.Vocab) { v.Tokens[299] = "x" },
		"a token unmerged":  func(v *api.Vocab) { v.Tokens[299] = "xy" },
		"a merge lacks":     func(v *api.Vocab) { v.Merges = v.Merges[1:] },
		"no merges":         func(v *api.Vocab) { v.Merges = nil },
		"a merge twice":     func(v *api.Vocab) { v.Merges = append(v.Merges, v.Merges[2]) },
		"parts twice":       func(v *api.Vocab) { m := v.Merges[0]; m.Order = 9; v.Merges = append(v.Merges, m) },
		"falling orders":    func(v *api.Vocab) { v.Merges[0].Order = 2 },
		"one order":         func(v *api.Vocab) { v.Merges[1].Order = 0 },
		"an order below":    func(v *api.Vocab) { v.Merges[0].Order = -1 },
		"an order above":    func(v *api.Vocab) { v.Merges[2].Order = 1<<20 + 1 },
		"a wrong left":      func(v *api.Vocab) { v.Merges[0].Left = 'b' },
		"a wrong right":     func(v *api.Vocab) { v.Merges[0].Right = 'a' },
		"a wrong out":       func(v *api.Vocab) { v.Merges[0].Out = 257 },
		"a huge out":        func(v *api.Vocab) { v.Merges[0].Out = math.MaxInt },
		"a left below":      func(v *api.Vocab) { v.Merges[0].Left = math.MinInt },
		"a special merges":  func(v *api.Vocab) { v.Merges[0].Right = 300 },
		"many merges":       func(v *api.Vocab) { v.Merges = make([]api.Merge, 16385) },
		"falling names":     func(v *api.Vocab) { slices.Reverse(v.Specials) },
		"a wrong name":      func(v *api.Vocab) { v.Specials[0].Name = "B" },
		"no name":           func(v *api.Vocab) { v.Specials[0].Name = "" },
		"an ID of a token":  func(v *api.Vocab) { v.Specials[0].ID = 97 },
		"an ID twice":       func(v *api.Vocab) { v.Specials[0].ID = 301 },
		"an ID behind all":  func(v *api.Vocab) { v.Specials[1].ID = 302 },
		"an ID below":       func(v *api.Vocab) { v.Specials[0].ID = -1 },
		"too many specials": func(v *api.Vocab) { v.Specials = make([]api.Special, 17) },
	}
	wrong := make(map[string]api.Vocab)
	for what, change := range changes {
		v := Good()
		change(&v)
		wrong[what] = v
	}
	return wrong
}

// Clone is the same vocabulary in memory of its own.
func Clone(v api.Vocab) api.Vocab {
	return api.Vocab{Tokens: slices.Clone(v.Tokens), Merges: slices.Clone(v.Merges), Specials: slices.Clone(v.Specials)}
}

// Odd is a table with apostrophes and some letters of endings as spaces, blanks as letters, and lines.
func Odd() []api.Range {
	return []api.Range{
		{Lo: '\n', Hi: '\n', Class: api.Line}, {Lo: ' ', Hi: ' ', Class: api.Letter}, {Lo: '\'', Hi: '\'', Class: api.Space},
		{Lo: '0', Hi: '9', Class: api.Number}, {Lo: 'a', Hi: 'r', Class: api.Letter}, {Lo: 's', Hi: 't', Class: api.Space},
	}
}

// Symbols are the bytes of a text, and then these.
func Symbols(text string, more ...int) []int {
	var symbols []int
	for at := range len(text) {
		symbols = append(symbols, int(text[at]))
	}
	return append(symbols, more...)
}
