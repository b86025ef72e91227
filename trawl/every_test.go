package trawl

import (
	"slices"
	"testing"

	"trawl/api"
)

// compare holds what Check and Names answer against the second way, and tells whether a longer pattern may begin so.
func compare(t *testing.T, text string) bool {
	t.Helper()
	e, at := Check(text)
	wantE, wantAt := wantCheck(text)
	if e != wantE || at != wantAt {
		t.Errorf("P3: Check(%.310q) = %d, %d, want %d, %d", text, e, at, wantE, wantAt)
	}
	want := []string{}
	if wantE == api.OK {
		want = wantNames(text)
	}
	if names, e := Names(text); e != wantE || !slices.Equal(names, want) {
		t.Errorf("P4: Names(%.310q) = %q, %d, want %q, %d", text, names, e, want, wantE)
	}
	return wantE != api.ErrForm || wantAt == len(text)
}

// extend compares a text and all that go on from it by up to that many pieces. Behind a rune that can't stand one more piece must change nothing, more of them are not tried.
func extend(t *testing.T, text string, pieces []string, more int) {
	if !compare(t, text) {
		more = min(more, 1)
	}
	if more == 0 || t.Failed() {
		return
	}
	for _, piece := range pieces {
		extend(t, text+piece, pieces, more-1)
	}
}

func TestEveryShortText(t *testing.T) {
	every := []string{"a", "é", ".", `\`, "d", "D", "[", "]", "^", "-", "(", ")", "?", "{", "}", ",", "0", "2", "|", "*", "+", ":", "i", "<", ">", "\n", "\xff"}
	extend(t, "", every, 3)
	for _, begun := range []string{"[", "[^", "[a", "[a-", `[\`, `[a-\`, "a{", "a{2", "a{2,", "(?", "(?i", "(?<", "(?<a", "(?<aaaaaaa", "(?<a>", "((a)", "a|", "a*", "a{2}"} {
		extend(t, begun, every, 2)
	}
}

func TestEveryShortTextOfBrackets(t *testing.T) {
	extend(t, "", []string{"a", "(", "(?:", "(?<a>", "(?<b>", ")", "|", "*", "{0}", "{2,1}", "[b-a]"}, 4)
}

func TestEveryTwoBytes(t *testing.T) {
	for first := range 256 {
		compare(t, string([]byte{byte(first)}))
		for second := range 256 {
			compare(t, string([]byte{byte(first), byte(second)}))
		}
	}
}

// TestLongTexts strings pieces together, in an order that a fixed rule gives, up to above MaxPattern bytes.
func TestLongTexts(t *testing.T) {
	pieces := []string{"a", "b|", "é", "(", "(?:", "(?i:", "(a)", ")", ")", ")*", "){20}", "){0}", "){2,}", "){1,20}?", "(x{20}){20}", "[a-z]", `[^\d\]-\]]`, `\b`, ".+", "x{19,20}", "^", "$"}
	rare := []string{"{3,2}", "x{3,2}", "x{21}", "[b-a]", "(?<a>", "(?<a>x)", "(?<b>", "(?<cdefghij>y)", "\xc3", `\q`, "**", "(?<cdefghijk>)", "{00}"}
	c := chooser(1)
	for range 600 {
		text, length, open := "", c.below(310), 0
		for len(text) < length {
			piece := c.of(pieces)
			if c.below(60) == 0 {
				piece = c.of(rare)
			}
			if piece[0] == ')' && open == 0 {
				continue
			}
			text += piece
			if _, depth, ok := cut(text); ok {
				open = depth
			}
		}
		for ; open > 0 && c.below(20) > 0; open-- {
			text += ")"
		}
		compare(t, text)
	}
}
