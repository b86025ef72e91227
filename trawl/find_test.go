package trawl

import (
	"fmt"
	"slices"
	"strings"
	"testing"
	"unsafe"

	"trawl/api"
)

// tell tells events as text: from, to, groups, bytes.
func tell(events []api.Event) string {
	var all []string
	for _, x := range events {
		one := fmt.Sprintf("%d-%d", x.Start, x.End)
		if len(x.Groups) > 0 {
			one += strings.ReplaceAll(fmt.Sprint(x.Groups), " ", ",")
		}
		all = append(all, one+fmt.Sprintf("%q", x.Text))
	}
	return strings.Join(all, " ")
}

type findCase struct {
	pattern, text, want string
}

func tryFinds(t *testing.T, cases []findCase) {
	t.Helper()
	for _, c := range cases {
		if events, e := Find(c.pattern, c.text); e != api.OK || tell(events) != c.want {
			t.Errorf("P5: Find(%.60q, %.60q) = %.300s, %d, want %.300s", c.pattern, c.text, tell(events), e, c.want)
		}
	}
}

func TestFindExamples(t *testing.T) {
	tryFinds(t, []findCase{
		{`a|ab`, "abab", `0-1"a" 2-3"a"`}, {`ab|a`, "abab", `0-2"ab" 2-4"ab"`}, {`a*`, "baac", `0-0"" 1-3"aa" 4-4""`}, {``, "é", `0-0"" 2-2""`}, {`.`, "\x61\xff", `0-1"a" 1-2"\xff"`},
		{`(a)|(b)`, "b", `0-1[-1,-1,0,1]"b"`}, {`(a|b)*`, "ab", `0-2[1,2]"ab"`}, {`(?:(a)|b)*`, "ab", `0-2[0,1]"ab"`}, {`(a?)*?b`, "aab", `0-3[1,2]"aab"`}, {`(|a)*`, "aa", `0-2[1,2]"aa"`}, {`(|a)+`, "aa", `0-2[1,2]"aa"`},
		{`\bcat\b`, "cat concat cat", `0-3"cat" 11-14"cat"`}, {`^a$`, "a", `0-1"a"`}, {`^a$`, "aa", ``}, {`(?i:straSse)`, "STRASSE", `0-7"STRASSE"`}, {`[^a-c]`, "abd", `2-3"d"`},
	})
}

// TestFindAtoms takes one atom, and all runes that can be told apart: those that it matches are told.
func TestFindAtoms(t *testing.T) {
	text := "\x00\t\n\v\f\r /09:@AZ[\\]^_`azé{}-K\u212a\ufffd\u0660\U0010ffff"
	for _, c := range []struct{ pattern, want string }{
		{`.`, "\x00\t\v\f\r /09:@AZ[\\]^_`azé{}-K\u212a\ufffd\u0660\U0010ffff"},
		{`\d`, "09"}, {`\D`, "\x00\t\n\v\f\r /:@AZ[\\]^_`azé{}-K\u212a\ufffd\u0660\U0010ffff"},
		{`\w`, "09AZ_azK"}, {`\W`, "\x00\t\n\v\f\r /:@[\\]^`é{}-\u212a\ufffd\u0660\U0010ffff"},
		{`\s`, "\t\n\r "}, {`\S`, "\x00\v\f/09:@AZ[\\]^_`azé{}-K\u212a\ufffd\u0660\U0010ffff"},
		{`\n`, "\n"}, {`\t`, "\t"}, {`\r`, "\r"}, {"\n", "\n"}, {`\/`, "/"}, {`\\`, `\`}, {`\[`, "["}, {`\]`, "]"}, {`]`, "]"}, {`\^`, "^"}, {`\{`, "{"}, {`}`, "}"}, {`\-`, "-"}, {`-`, "-"}, {`é`, "é"}, {"\x00", "\x00"},
		{`[9-A]`, "9:@A"}, {`[^9-A]`, "\x00\t\n\v\f\r /0Z[\\]^_`azé{}-K\u212a\ufffd\u0660\U0010ffff"}, {`[\d\s]`, "\t\n\r 09"}, {`[^\d\w\s]`, "\x00\v\f/:@[\\]^`é{}-\u212a\ufffd\u0660\U0010ffff"}, {`[\t-\r]`, "\t\n\v\f\r"}, {`[\]-\^]`, "]^"}, {`[Aé0-9z-z]`, "09Azé"}, {`[0-AA-Z9-@]`, "09:@AZK"}, {`[0-Z9-A@]`, "09:@AZK"},
		{"[\x00-\U0010ffff]", text}, {"[^\x00-\U0010ffff]", ""}, {"[^\x01-\U0010ffff]", "\x00"}, {"[^\x00-\ufffc]", "\ufffd\U0010ffff"}, {"[^\x00-\U0010fffe]", "\U0010ffff"},
		{`(?i:k)`, "K"}, {`(?i:K)`, "K"}, {`(?i:É)`, ""}, {`(?i:[z-}])`, "Zz{}"}, {`(?i:[@-A])`, "@Aa"}, {`(?i:[Z-a])`, "AZ[\\]^_`az"}, {`(?i:[^a-k])`, "\x00\t\n\v\f\r /09:@Z[\\]^_`zé{}-\u212a\ufffd\u0660\U0010ffff"}, {`(?i:\w)`, "09AZ_azK"}, {`(?i:\W)`, "\x00\t\n\v\f\r /:@[\\]^`é{}-\u212a\ufffd\u0660\U0010ffff"}, {`(?i:.)`, "\x00\t\v\f\r /09:@AZ[\\]^_`azé{}-K\u212a\ufffd\u0660\U0010ffff"}, {`(?i:@)`, "@"}, {`(?i:[^@])`, "\x00\t\n\v\f\r /09:AZ[\\]^_`azé{}-K\u212a\ufffd\u0660\U0010ffff"},
		{`(?i:(?:(a)))`, "Aa"}, {`(?i:)a`, "a"}, {`(?i:(?i:)a)`, "Aa"}, {`(?i:x)|a`, "a"}, {`(?i:(?:x)|a)`, "Aa"},
	} {
		events, e := Find(c.pattern, text)
		got := ""
		for _, x := range events {
			got += x.Text
		}
		if e != api.OK || got != c.want {
			t.Errorf("P5: %q matches the runes %q, %d, want %q", c.pattern, got, e, c.want)
		}
	}
}

func TestFindRunes(t *testing.T) {
	tryFinds(t, []findCase{
		{`.`, "é\n😀", `0-2"é" 3-7"😀"`}, {`..`, "é😀é", `0-6"é😀"`}, {``, "a😀", `0-0"" 1-1"" 5-5""`}, {``, "\xe2\x82", `0-0"" 1-1"" 2-2""`},
		{"\ufffd", "\xe2\x82\xac\xe2\x82a\ufffd\xff", `3-4"\xe2" 4-5"\x82" 6-9"` + "\ufffd" + `" 9-10"\xff"`}, {`[^a]`, "\xc3a\xa9", `0-1"\xc3" 2-3"\xa9"`}, {`.`, "\xed\xa0\x80", `0-1"\xed" 1-2"\xa0" 2-3"\x80"`}, {`.`, "\xf4\x90\xc0\xaf", `0-1"\xf4" 1-2"\x90" 2-3"\xc0" 3-4"\xaf"`},
		{`é`, "\xc3\xc3\xa9\xa9", `1-3"é"`}, {`\W+`, "\xffé\xc3", `0-4"\xffé\xc3"`}, {`(.)(.)`, "\xf0\x9f\x98\x80\xf0\x9f", `0-5[0,4,4,5]"😀\xf0"`},
	})
}

func TestFindEdges(t *testing.T) {
	tryFinds(t, []findCase{
		{`^`, "a\na", `0-0""`}, {`$`, "a\n", `2-2""`}, {`$`, "", `0-0""`}, {`^$`, "", `0-0""`}, {`^$`, "a", ``}, {`$^`, "", `0-0""`}, {`a^b`, "ab", ``}, {`a$b`, "ab", ``}, {`^*a`, "aa", `0-1"a" 1-2"a"`}, {`(?:^a|b)+`, "aab", `0-1"a" 2-3"b"`}, {`a$|b`, "aba", `1-2"b" 2-3"a"`},
		{`\b`, "", ``}, {`\B`, "", `0-0""`}, {`\b`, "a", `0-0"" 1-1""`}, {`\B`, "ab", `1-1""`}, {`\b`, " a_0-", `1-1"" 4-4""`}, {`\B`, " -", `0-0"" 1-1"" 2-2""`}, {`\b`, "éa\xffb", `2-2"" 3-3"" 4-4"" 5-5""`}, {`\Ba\B`, "aaa", `1-2"a"`}, {`\b\w+?\b`, "ab cd", `0-2"ab" 3-5"cd"`}, {`a\b`, "aab a", `4-5"a"`}, {`(?i:\b)x`, "ax x", `3-4"x"`}, {`a(?:\b|b)`, "ab a", `0-2"ab" 3-4"a"`},
	})
}

func TestFindTimes(t *testing.T) {
	tryFinds(t, []findCase{
		{`a?`, "aab", `0-1"a" 1-2"a" 3-3""`}, {`a??`, "a", `0-0"" 1-1""`}, {`a??b`, "aab", `1-3"ab"`}, {`a*?`, "a", `0-0"" 1-1""`}, {`a*?b`, "aab", `0-3"aab"`}, {`a+`, "aab", `0-2"aa"`}, {`a+?`, "aab", `0-1"a" 1-2"a"`}, {`a+?b`, "aab", `0-3"aab"`},
		{`a{2}`, "aaaaa", `0-2"aa" 2-4"aa"`}, {`a{2}?`, "aaaaa", `0-2"aa" 2-4"aa"`}, {`a{2,}`, "aaaaa", `0-5"aaaaa"`}, {`a{2,}?`, "aaaaa", `0-2"aa" 2-4"aa"`}, {`a{2,3}`, "aaaaa", `0-3"aaa" 3-5"aa"`}, {`a{2,3}?`, "aaaaa", `0-2"aa" 2-4"aa"`}, {`a{0}`, "a", `0-0"" 1-1""`}, {`(a){0,0}`, "a", `0-0[-1,-1]"" 1-1[-1,-1]""`}, {`a{0,}b`, "aab", `0-3"aab"`}, {`a{1}`, "aa", `0-1"a" 1-2"a"`}, {`a{20}`, times(41, "a"), `0-20"` + times(20, "a") + `" 20-40"` + times(20, "a") + `"`}, {`a{19,20}b`, times(25, "a") + "b", `5-26"` + times(20, "a") + `b"`},
		{`(((((b{20}){20}){20}){20}){20}){0}a`, "a", `0-1[-1,-1,-1,-1,-1,-1,-1,-1,-1,-1]"a"`},
		{`(?:a|ab){2}c`, "aabc", `0-4"aabc"`}, {`(?:ab?){2,3}`, "abaabab", `0-5"abaab"`},
	})
}

// TestFindEmptyTurns gives repetitions whose part may take no rune: a turn of `*` that takes none is dropped, one that is asked for is not.
func TestFindEmptyTurns(t *testing.T) {
	tryFinds(t, []findCase{
		{`(a*)*`, "b", `0-0[-1,-1]"" 1-1[-1,-1]""`}, {`(a*)+`, "b", `0-0[0,0]"" 1-1[1,1]""`}, {`(a*)+`, "aa", `0-2[0,2]"aa"`}, {`(a*)*`, "aa", `0-2[0,2]"aa"`}, {`(a*?)*`, "aa", `0-2[1,2]"aa"`}, {`(a*?)*?`, "a", `0-0[-1,-1]"" 1-1[-1,-1]""`}, {`(a*?)+?b`, "aab", `0-3[1,2]"aab"`},
		{`()*`, "a", `0-0[-1,-1]"" 1-1[-1,-1]""`}, {`()+`, "a", `0-0[0,0]"" 1-1[1,1]""`}, {`(){2}a`, "a", `0-1[0,0]"a"`}, {`()?`, "", `0-0[0,0]""`}, {`()??`, "", `0-0[-1,-1]""`}, {`(|a)?`, "a", `0-0[0,0]"" 1-1[1,1]""`}, {`(|a){0,2}`, "aa", `0-0[0,0]"" 1-1[1,1]"" 2-2[2,2]""`}, {`(|a){2,}`, "aa", `0-2[1,2]"aa"`}, {`(|a){2}`, "aa", `0-0[0,0]"" 1-1[1,1]"" 2-2[2,2]""`}, {`(|a){2}b`, "aab", `0-3[1,2]"aab"`}, {`(a|){2}`, "a", `0-1[1,1]"a"`}, {`(a|)*`, "a", `0-1[0,1]"a"`},
		{`(?:(a?)(b?))*`, "ab", `0-2[0,1,1,2]"ab"`}, {`(?:(a?)(b?))*`, "ba", `0-2[1,2,2,2]"ba"`}, {`(?:(a?)|b)*`, "aba", `0-3[2,3]"aba"`}, {`((a?)*)*b`, "aab", `0-3[0,2,1,2]"aab"`}, {`((a?)*|b)*`, "aba", `0-3[2,3,2,3]"aba"`}, {`((|a)*?|b)*`, "ab", `0-2[1,2,0,1]"ab"`}, {`(^|a)*`, "aa", `0-2[1,2]"aa"`}, {`(\b|b)*`, "bb", `0-2[1,2]"bb"`}, {`(?:$|a)+`, "aa", `0-2"aa"`}, {`(a|$)+`, "a", `0-1[0,1]"a"`},
	})
}

func TestFindOrder(t *testing.T) {
	tryFinds(t, []findCase{
		{`a|ab|abc`, "abc", `0-1"a"`}, {`abc|ab|a`, "abcab", `0-3"abc" 3-5"ab"`}, {`(?:a|ab)(?:c|bcd)(d*)`, "abcd", `0-4[4,4]"abcd"`}, {`(?:|a)b`, "ab", `0-2"ab"`}, {`(a|ab)(bc|c)?`, "abc", `0-3[0,1,1,3]"abc"`}, {`(a*)(a*)`, "aa", `0-2[0,2,2,2]"aa"`}, {`(a*?)(a*)`, "aa", `0-2[0,0,0,2]"aa"`}, {`(a?)(a??)(a?)`, "aa", `0-2[0,1,1,1,1,2]"aa"`},
		{`a.*b`, "xaxbxb", `1-6"axbxb"`}, {`a.*?b`, "xaxbxb", `1-4"axb"`}, {`b|ab`, "ab", `0-2"ab"`}, {`abcd|bc|c`, "abce", `1-3"bc"`}, {`a(.*z)?|x`, "ax", `0-1[-1,-1]"a" 1-2[-1,-1]"x"`}, {`a(.*z)?|x`, "axz", `0-3[1,3]"axz"`}, {`x*y|x`, "xxx", `0-1"x" 1-2"x" 2-3"x"`},
	})
}

func TestFindGroups(t *testing.T) {
	tryFinds(t, []findCase{
		{`((a)|(b))*`, "ab", `0-2[1,2,0,1,1,2]"ab"`}, {`(?<x>a)(?:(?<y>b)|c)`, "acab", `0-2[0,1,-1,-1]"ac" 2-4[2,3,3,4]"ab"`}, {`(a){2}`, "aa", `0-2[1,2]"aa"`}, {`(a){0}b`, "ab", `1-2[-1,-1]"b"`}, {`(a)?b`, "b", `0-1[-1,-1]"b"`}, {`(a(b)?){2}`, "aba", `0-3[2,3,1,2]"aba"`}, {`(é)+(x*)`, "éé", `0-4[2,4,4,4]"éé"`}, {`(a+)(b?)\b`, "aab a", `0-3[0,2,2,3]"aab" 4-5[4,5,5,5]"a"`}, {`(?i:(?<n>A))|(b)`, "ab", `0-1[0,1,-1,-1]"a" 1-2[-1,-1,1,2]"b"`}, {`()`, "", `0-0[0,0]""`},
	})
}

func TestFindEmptyMatches(t *testing.T) {
	tryFinds(t, []findCase{
		{``, "", `0-0""`}, {`a`, "", ``}, {``, "ab", `0-0"" 1-1"" 2-2""`}, {`x*`, "axx", `0-0"" 1-3"xx"`}, {`x*`, "xxa", `0-2"xx" 3-3""`}, {`x*`, "xax", `0-1"x" 2-3"x"`}, {`x|`, "xab", `0-1"x" 2-2"" 3-3""`}, {`|x`, "xx", `0-0"" 1-1"" 2-2""`}, {`x*`, "éé", `0-0"" 2-2"" 4-4""`}, {`a|\b`, "ab", `0-1"a" 2-2""`}, {`$|a`, "a", `0-1"a"`}, {`a$|$`, "ba", `1-2"a"`},
	})
}

func TestFindError(t *testing.T) {
	for _, c := range []struct {
		pattern string
		e       api.Errno
	}{
		{times(301, "a"), api.ErrLong}, {"a\xff", api.ErrRune}, {`a(`, api.ErrForm}, {`a{21}`, api.ErrRepeat}, {`a|[b-a]`, api.ErrClass}, {`(?<a>a)(?<a>a)`, api.ErrName}, {`a|((a{20}){20}){3}`, api.ErrBig}, {`((a{20}){20}){3}[b-a]`, api.ErrClass},
	} {
		for _, text := range []string{"", "a", "\xff"} {
			if events, e := Find(c.pattern, text); e != c.e || len(events) != 0 {
				t.Errorf("P1, P5: Find(%.60q, %q) = %s, %d, want nothing and %d", c.pattern, text, tell(events), e, c.e)
			}
		}
	}
}

// TestFindIsFast gives patterns with very many ways that fail, or with long ones at each place.
func TestFindIsFast(t *testing.T) {
	text := times(50000, "a")
	for _, p := range []string{`(?:a*)*b`, `(?:a|a)*b`, `(?:a?){20}a{20}b`, `(?:(?:a+)+)+b`, `(?:a*?)*?b`, `(?:(?:a|a?)+)*$b`, times(70, "(") + "a" + times(70, ")*") + "b", times(40, "a?") + times(40, "a") + "b", `(?:a*){20}b`, `(?:a{1,20}){1,20}b`} {
		if events, e := Find(p, text); e != api.OK || len(events) != 0 {
			t.Errorf("P5: Find(%.60q, ..) = %.60s, %d, want nothing", p, tell(events), e)
		}
	}
	for _, p := range []string{`a(?:.*z)?`, `a*b|a`, `a+?b|a`, `(?:a(?:a*b)?)`} {
		if events, e := Find(p, text); e != api.OK || len(events) != len(text) {
			t.Errorf("P5: Find(%.60q, ..) = %d events, %d, want %d", p, len(events), e, len(text))
		}
	}
}

func TestFindIsNewMemory(t *testing.T) {
	pattern, text := `(a)(b)?`, "abaab"
	first, _ := Find(pattern, text)
	want := `0-2[0,1,1,2]"ab" 2-3[2,3,-1,-1]"a" 3-5[3,4,4,5]"ab"`
	begin := uintptr(unsafe.Pointer(unsafe.StringData(text)))
	for i, x := range first {
		if at := uintptr(unsafe.Pointer(unsafe.StringData(x.Text))); begin <= at && at < begin+uintptr(len(text)) {
			t.Errorf("P2: the Text of event %d is a piece of the text that was handed in", i)
		}
		all := x.Groups[:cap(x.Groups)]
		kept := slices.Clone(all)
		for j := range all {
			all[j] = 77
		}
		for j, other := range first {
			if j != i && slices.Contains(other.Groups[:cap(other.Groups)], 77) {
				t.Errorf("P2: the Groups of events %d and %d share memory", i, j)
			}
		}
		copy(all, kept)
	}
	if tell(first) != want {
		t.Errorf("P2: Find(%q, %q) = %s, want %s", pattern, text, tell(first), want)
	}
	for i := range first[:cap(first)] {
		first[:cap(first)][i] = api.Event{Start: 77}
	}
	if second, _ := Find(pattern, text); tell(second) != want {
		t.Errorf("P2: what was written into an answer is seen in the next: %s", tell(second))
	}
}
