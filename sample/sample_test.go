package sample_test

import (
	"testing"

	"footbridge/api"
	"footbridge/class"
	"footbridge/sample"
	"footbridge/vocab"
)

// What tests are made of is as it says: else they would try other things than they seem to.
func TestVocabularies(t *testing.T) {
	for what, v := range map[string]api.Vocab{
		"rows":  sample.ByRank(sample.Rows("ab", "abc"), api.Special{Name: "end", ID: 300}),
		"pairs": sample.ByPairs(sample.Tables("a+b", "ab+c", "b+c", "a+bc"), api.Special{Name: "end", ID: 300}),
		"good":  sample.Good(),
		"full":  sample.Full(),
	} {
		if len(v.Tokens) == 0 || !vocab.May(v) || !vocab.May(sample.Clone(v)) {
			t.Errorf("%s: may not be", what)
		}
	}
	if v := sample.Full(); len(v.Tokens) != api.MaxTokens || len(v.Merges) != api.MaxMerges {
		t.Error("full:", len(v.Tokens), len(v.Merges))
	}
	for what, v := range sample.Wrong() {
		if vocab.May(v) {
			t.Errorf("%s: may be", what)
		}
	}
	if !class.May(sample.Odd()) {
		t.Error("odd: may not be")
	}
}
