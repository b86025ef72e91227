package trawl

import (
	"strings"
	"testing"

	"trawl/api"
)

type checkCase struct {
	pattern string
	e       api.Errno
	at      int
}

func tryChecks(t *testing.T, cases []checkCase) {
	t.Helper()
	for _, c := range cases {
		if e, at := Check(c.pattern); e != c.e || at != c.at {
			t.Errorf("P3: Check(%.60q) = %d, %d, want %d, %d", c.pattern, e, at, c.e, c.at)
		}
	}
}

// tryGood holds that each of these is a pattern.
func tryGood(t *testing.T, patterns ...string) {
	t.Helper()
	for _, p := range patterns {
		tryChecks(t, []checkCase{{p, api.OK, 0}})
	}
}

func times(n int, text string) string {
	return strings.Repeat(text, n)
}

func TestCheckExamples(t *testing.T) {
	tryChecks(t, []checkCase{
		{`a(b|c)*d`, api.OK, 0}, {`a)`, api.ErrForm, 1}, {`(a`, api.ErrForm, 2}, {`a**`, api.ErrForm, 2}, {`*`, api.ErrForm, 0},
		{`a{2,1}`, api.ErrRepeat, 1}, {`a{21}`, api.ErrRepeat, 1}, {`a{01}`, api.ErrForm, 3}, {`[b-a]`, api.ErrClass, 1}, {`[]`, api.ErrForm, 1},
		{`(?<x>a)(?<x>b)`, api.ErrName, 10}, {`\q`, api.ErrForm, 1}, {`(?=a)`, api.ErrForm, 2}, {`((a{20}){20}){3}`, api.ErrBig, 0}, {``, api.OK, 0},
	})
}

func TestCheckOrdinary(t *testing.T) {
	tryGood(t, `a`, `é😀`, `a|b`, `|`, `a||`, `()`, `(|)`, `(a(?:b(?i:c(?<d>e))))`, `a.b`, `^a$`, `^*`, `$?`, `\b+`)
	tryGood(t, `\.\^\$\|\?\*\+\(\)\[\]\{\}\-\/\\`, `\n\t\r`, `\d\D\w\W\s\S\b\B`)
	tryGood(t, `]`, `}`, `-`, `,`, `/`, `:`, `<>`, `a}`, `"'#&~`, " ", "\n", "\x00", "\x7f")
	tryGood(t, `a*`, `a+`, `a?`, `a{2}`, `a{2,}`, `a{2,3}`, `a*?`, `a+?`, `a??`, `a{2}?`, `a{2,}?`, `a{2,3}?`, `a{0}`, `a{0,0}`, `(a*)*`)
	tryGood(t, `[a]`, `[^a]`, `[ab]`, `[a-c]`, `[a-cx-z]`, `[a-a]`, `[a-bc]`, `[.$|?*+(){}/]`, `[\.\^\$\|\?\*\+\(\)\[\]\{\}\-\/\\\n\t\r]`, `[\d\w\s]`, `[\da-b]`, `[\--\/]`, `[\t-\n]`, `[a-é]`, "[\n]", "[\x00-\U0010ffff]")
	tryGood(t, `(?:)`, `(?i:)`, `(?<a>)`, `(?<z>|)`, `(?i:a)i:`)
}

func TestCheckLong(t *testing.T) {
	tryGood(t, times(300, "a"), times(150, "é"), times(150, "(")+times(150, ")"))
	tryChecks(t, []checkCase{
		{times(301, "a"), api.ErrLong, 0}, {times(150, "é") + "a", api.ErrLong, 0}, {times(100000, "("), api.ErrLong, 0},
	})
}

func TestCheckRune(t *testing.T) {
	tryGood(t, "\ufffd", "[\ufffd]", "\U0010ffff", "\u0080", "\u0800", "\ud7ff\ue000", "\U00010000")
	tryChecks(t, []checkCase{
		{"\xff", api.ErrRune, 0}, {"\x80a", api.ErrRune, 0}, {"a\xffb", api.ErrRune, 1}, {"ab\xc3", api.ErrRune, 2}, {"é\xe2\x82", api.ErrRune, 2}, {"a\xf0\x9f\x98", api.ErrRune, 1},
		{"\xc3\xc3\xa9", api.ErrRune, 0}, {"é\xa9", api.ErrRune, 2}, {"\ufffd\xef\xbf", api.ErrRune, 3}, {"\xef\xbf\ufffd", api.ErrRune, 0},
		{"a\xc0\xaf", api.ErrRune, 1}, {"a\xe0\x9f\xbf", api.ErrRune, 1}, {"a\xf0\x8f\xbf\xbf", api.ErrRune, 1}, {"a\xed\xa0\x80", api.ErrRune, 1}, {"a\xf4\x90\x80\x80", api.ErrRune, 1}, {"a\xf5\x80\x80\x80", api.ErrRune, 1},
		{"(a|[b\xfe", api.ErrRune, 5}, {"\xfe\xff", api.ErrRune, 0},
	})
}

func TestCheckEndsTooEarly(t *testing.T) {
	for _, p := range []string{`(`, `((a)`, `(a|`, `a(b`, `(?`, `(?i`, `(?:`, `(?i:`, `(?<`, `(?<a`, `(?<abcdefgh`, `(?<a>`, `[`, `[^`, `[a`, `[a-`, `[a-b`, `[\`, `[a-\`, `[\d`, `\`, `é\`, `a{`, `a{0`, `a{2`, `a{20`, `a{2,`, `a{2,3`, `a{2,20`, times(300, "(")} {
		tryChecks(t, []checkCase{{p, api.ErrForm, len(p)}})
	}
}

func TestCheckCannotStand(t *testing.T) {
	tryChecks(t, []checkCase{
		{`)`, api.ErrForm, 0}, {`(a))b`, api.ErrForm, 3}, {`é)`, api.ErrForm, 2}, {`a|)`, api.ErrForm, 2}, {`[(])`, api.ErrForm, 3}, {`\()`, api.ErrForm, 2},
		{`+`, api.ErrForm, 0}, {`?`, api.ErrForm, 0}, {`{`, api.ErrForm, 0}, {`{2}`, api.ErrForm, 0}, {`|*`, api.ErrForm, 1}, {`(*a)`, api.ErrForm, 1}, {`(+`, api.ErrForm, 1}, {`(?:*`, api.ErrForm, 3}, {`(?<a>{`, api.ErrForm, 5},
		{`a*+`, api.ErrForm, 2}, {`a+{2}`, api.ErrForm, 2}, {`a???`, api.ErrForm, 3}, {`a*?*`, api.ErrForm, 3}, {`a{2}*`, api.ErrForm, 4}, {`a{2}??`, api.ErrForm, 5}, {`a{2}{2}`, api.ErrForm, 4},
		{`a{}`, api.ErrForm, 2}, {`a{,3}`, api.ErrForm, 2}, {`a{-1}`, api.ErrForm, 2}, {`a{ 1}`, api.ErrForm, 2}, {`a{00}`, api.ErrForm, 3}, {`a{100}`, api.ErrForm, 4}, {`a{1 }`, api.ErrForm, 3}, {`a{1,01}`, api.ErrForm, 5}, {`a{1,100}`, api.ErrForm, 6}, {`a{1,,}`, api.ErrForm, 4}, {`a{1,2,}`, api.ErrForm, 5}, {`a{٣}`, api.ErrForm, 2},
		{`[^]`, api.ErrForm, 2}, {`[^^]`, api.ErrForm, 2}, {`[[]`, api.ErrForm, 1}, {`[-]`, api.ErrForm, 1}, {`[a^]`, api.ErrForm, 2}, {`[a-]`, api.ErrForm, 3}, {`[a--]`, api.ErrForm, 3}, {`[a-^]`, api.ErrForm, 3}, {`[a-b-c]`, api.ErrForm, 4}, {`[\d-a]`, api.ErrForm, 3}, {`[a-\w]`, api.ErrForm, 4}, {`[\D]`, api.ErrForm, 2}, {`[\W]`, api.ErrForm, 2}, {`[\S]`, api.ErrForm, 2}, {`[\b]`, api.ErrForm, 2}, {`[\é]`, api.ErrForm, 2}, {`[\x]`, api.ErrForm, 2},
		{`\a`, api.ErrForm, 1}, {`\0`, api.ErrForm, 1}, {`\ `, api.ErrForm, 1}, {`\é`, api.ErrForm, 1}, {`é\,`, api.ErrForm, 3}, {`\<`, api.ErrForm, 1}, {"\\\n", api.ErrForm, 1},
		{`(?)`, api.ErrForm, 2}, {`(??)`, api.ErrForm, 2}, {`(?!a)`, api.ErrForm, 2}, {`(?P<a>b)`, api.ErrForm, 2}, {`(?I:a)`, api.ErrForm, 2}, {`(?i)`, api.ErrForm, 3}, {`(?ii:a)`, api.ErrForm, 3}, {`(?i<a>b)`, api.ErrForm, 3},
		{`(?<>a)`, api.ErrForm, 3}, {`(?<A>a)`, api.ErrForm, 3}, {`(?<é>a)`, api.ErrForm, 3}, {`(?<=a)`, api.ErrForm, 3}, {`(?<aB>a)`, api.ErrForm, 4}, {`(?<a_>a)`, api.ErrForm, 4}, {`(?<a:b)`, api.ErrForm, 4},
	})
}

func TestCheckNameLength(t *testing.T) {
	tryGood(t, `(?<a>)`, `(?<abcdefgh>)`)
	tryChecks(t, []checkCase{{`(?<abcdefghi>)`, api.ErrForm, 11}})
}

func TestCheckRepeat(t *testing.T) {
	tryGood(t, `a{20}`, `a{20,}`, `a{0,20}`, `a{20,20}`, `a{5,5}`, `a{9,10}`)
	tryChecks(t, []checkCase{
		{`a{21}`, api.ErrRepeat, 1}, {`a{21,}`, api.ErrRepeat, 1}, {`a{0,21}`, api.ErrRepeat, 1}, {`a{21,21}`, api.ErrRepeat, 1}, {`a{21,20}`, api.ErrRepeat, 1}, {`a{99}?`, api.ErrRepeat, 1},
		{`a{1,0}`, api.ErrRepeat, 1}, {`a{20,19}`, api.ErrRepeat, 1}, {`é{10,9}`, api.ErrRepeat, 2},
		{`a{20}b{2,1}c{21}`, api.ErrRepeat, 6}, {`(a{21}){2,1}`, api.ErrRepeat, 2}, {`(a{20}){2,1}`, api.ErrRepeat, 7}, {`[a{21}]b{21}`, api.ErrRepeat, 8},
	})
}

func TestCheckClass(t *testing.T) {
	tryGood(t, `[a-a]`, `[A-z]`, `(?i:[Z-a])`, `[\r-n]`, `\[b-a]`)
	tryChecks(t, []checkCase{
		{`[z-y]`, api.ErrClass, 1}, {`[^z-y]`, api.ErrClass, 2}, {`[a-bb-a]`, api.ErrClass, 4}, {`[\dé-e]`, api.ErrClass, 3}, {`(?i:[a-Z])`, api.ErrClass, 5},
		{`[\]-\[]`, api.ErrClass, 1}, {`[\n-\t]`, api.ErrClass, 1}, {`[\r-\n]`, api.ErrClass, 1}, {`[a-\r]`, api.ErrClass, 1}, {`[n-\r]`, api.ErrClass, 1}, {"[\U00010000-\uffff]", api.ErrClass, 1},
		{`[a-b]x[é-è][b-a]`, api.ErrClass, 7},
	})
}

func TestCheckName(t *testing.T) {
	tryGood(t, `(?<a>)(?<b>)`, `(?<a>)(?<aa>)`, `(?<a>(?<b>))`, `()()`, `(?<a>)\(?<a>`, `(?<a>)[(?<a>]`)
	tryChecks(t, []checkCase{
		{`(?<a>)(?<a>)`, api.ErrName, 9}, {`(?<a>(?<a>))`, api.ErrName, 8}, {`é(?<a>)|(?<b>)(?<b>)(?<a>)`, api.ErrName, 18}, {`(?<abcdefgh>)()(?<abcdefgh>)`, api.ErrName, 18}, {`(?<a>x){0}(?<a>y)`, api.ErrName, 13},
	})
}

// TestCheckSizes takes a piece of a known size, fills up with single runes to MaxSize, and then goes one beyond.
func TestCheckSizes(t *testing.T) {
	for _, c := range []struct {
		piece string
		size  int
	}{
		{``, 0}, {`a`, 1}, {`é`, 1}, {`.`, 1}, {`^`, 1}, {`$`, 1}, {`\d`, 1}, {`\b`, 1}, {`\.`, 1}, {`[a-cx\d]`, 1}, {`[^a]`, 1},
		{`()`, 1}, {`(?:)`, 1}, {`(?i:a)`, 2}, {`(?<a>ab)`, 3}, {`(a|b)`, 4}, {`(||)`, 3},
		{`a*`, 2}, {`a?`, 2}, {`a+`, 4}, {`(ab)*?`, 4}, {`(ab)??`, 4}, {`(ab)+?`, 8}, {`a{0}`, 0}, {`a{1}`, 2}, {`a{3}`, 6}, {`a{3}?`, 6}, {`a{0,}`, 2}, {`a{3,}`, 8}, {`a{3,5}`, 10}, {`a{0,0}`, 0}, {`(a*)+`, 8}, {`(a{2}|b{2,}){2,4}`, 52},
		{`(((a{20}){20}){20}){0}`, 0},
	} {
		fill := "(?:a{19}){19}" + times(240-c.size, "b") // 760 and the rest
		tryGood(t, c.piece+fill)
		tryChecks(t, []checkCase{{c.piece + "b" + fill, api.ErrBig, 0}})
	}
}

func TestCheckSizeBeyondIntegers(t *testing.T) {
	deep := times(47, "(") + "a" + times(47, "){20}")
	tryChecks(t, []checkCase{{deep, api.ErrBig, 0}, {"(" + deep + "){0,}", api.ErrBig, 0}})
	tryGood(t, "("+deep+"){0}")
}

// TestCheckSeveral gives patterns with several errors: the one that the document names first is told.
func TestCheckSeveral(t *testing.T) {
	tryChecks(t, []checkCase{
		{times(300, ")") + "\xff", api.ErrLong, 0}, {times(301, "\xff"), api.ErrLong, 0},
		{")a{21}\xff", api.ErrRune, 6}, {"\\\xff", api.ErrRune, 1},
		{`a{21}[b-a](?<a>)(?<a>))`, api.ErrForm, 22}, {`a{21`, api.ErrForm, 4}, {`[b-a`, api.ErrForm, 4}, {`(?<a>)(?<a`, api.ErrForm, 10}, {`)(`, api.ErrForm, 0}, {`((a{20}){20}){20}**`, api.ErrForm, 17},
		{`(?<a>)(?<a>)[b-a]((a{20}){20}){20}x{21}`, api.ErrRepeat, 35}, {`[b-a]{2,1}`, api.ErrRepeat, 5},
		{`(?<a>)(?<a>)((a{20}){20}){20}[b-a]`, api.ErrClass, 30},
		{`((a{20}){20}){20}(?<a>)(?<a>)`, api.ErrName, 26},
	})
}
