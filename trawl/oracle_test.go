package trawl

import (
	"math/big"
	"regexp"
	"sort"
	"strconv"
	"strings"
	"unicode/utf8"

	"trawl/api"
)

// A second way to what Check and Names answer: a string is cut into tokens by regular expressions, and brackets are counted. It has nothing in common with how the program reads.

const oneForm = `(?:[^\\\[\]^-]|\\[.^$|?*+()\[\]{}\-/\\ntr])`

var (
	tokenForm = regexp.MustCompile(`(?s)^(?:` + strings.Join([]string{
		`(?P<open>\((?:\?:|\?i:|\?<(?P<name>[a-z]{1,8})>)?)`,
		`(?P<close>\))`,
		`(?P<bar>\|)`,
		`(?P<times>(?:[*+?]|\{(?P<low>0|[1-9][0-9]?)(?P<comma>,(?P<high>0|[1-9][0-9]?)?)?\})\??)`,
		`(?P<class>\[\^?(?:` + oneForm + `(?:-` + oneForm + `)?|\\[dws])+\])`,
		`(?P<other>\\[.^$|?*+()\[\]{}\-/\\ntrdDwWsSbB]|[^\\|?*+()\[{])`,
	}, "|") + `)`)
	itemForm = regexp.MustCompile(`(?s)^(?:(?P<from>` + oneForm + `)(?:-(?P<to>` + oneForm + `))?|\\[dws])`)
)

type token struct {
	sort  string
	place int
	parts map[string]string
}

// cut cuts a string into tokens; ok tells whether it is the beginning of a pattern that ends with a whole token, depth how many brackets are open at its end.
func cut(text string) (tokens []token, depth int, ok bool) {
	atomAhead := false
	for at := 0; at < len(text); {
		t, length := firstToken(text[at:])
		if t.sort == "" || t.sort == "times" && !atomAhead || t.sort == "close" && depth == 0 {
			return nil, 0, false
		}
		t.place = at
		switch t.sort {
		case "open":
			depth++
		case "close":
			depth--
		}
		atomAhead = t.sort == "close" || t.sort == "class" || t.sort == "other"
		tokens = append(tokens, t)
		at += length
	}
	return tokens, depth, true
}

func firstToken(text string) (token, int) {
	// An open bracket with a `?` behind it is no plain group: `?` can't begin one.
	found := tokenForm.FindStringSubmatch(text)
	if found == nil || found[0] == "(" && strings.HasPrefix(text, "(?") {
		return token{}, 0
	}
	t := token{parts: map[string]string{}}
	for i, name := range tokenForm.SubexpNames() {
		if name != "" && found[i] != "" {
			t.parts[name] = found[i]
		}
	}
	for _, s := range []string{"open", "close", "bar", "times", "class", "other"} {
		if t.parts[s] != "" {
			t.sort = s
		}
	}
	return t, len(found[0])
}

// canBegin tells whether some pattern begins so: whatever token is begun, one of these ends it, and open brackets can be closed.
func canBegin(text string) bool {
	for _, finish := range []string{"", "n", "n]", "]", "a]", "0}", "}", "a>", ">", ":"} {
		if _, _, ok := cut(text + finish); ok {
			return true
		}
	}
	return false
}

func wantCheck(text string) (api.Errno, int) {
	if len(text) > 300 {
		return api.ErrLong, 0
	}
	var ends []int // behind each rune
	for at := 0; at < len(text); {
		r, width := utf8.DecodeRuneInString(text[at:])
		if r == utf8.RuneError && width == 1 {
			return api.ErrRune, at
		}
		at += width
		ends = append(ends, at)
	}
	tokens, depth, ok := cut(text)
	if !ok || depth > 0 {
		bad := sort.Search(len(ends), func(i int) bool { return !canBegin(text[:ends[i]]) })
		if bad == len(ends) {
			return api.ErrForm, len(text)
		}
		_, width := utf8.DecodeLastRuneInString(text[:ends[bad]])
		return api.ErrForm, ends[bad] - width
	}
	return wantBeyondForm(tokens)
}

func wantBeyondForm(tokens []token) (api.Errno, int) {
	for _, t := range tokens {
		low, high := number(t.parts["low"]), number(t.parts["high"])
		if low > 20 || high > 20 || t.parts["high"] != "" && high < low {
			return api.ErrRepeat, t.place
		}
	}
	for _, t := range tokens {
		if at := badRange(t.parts["class"]); at > 0 {
			return api.ErrClass, t.place + at
		}
	}
	had := map[string]int{}
	for _, t := range tokens {
		name := t.parts["name"]
		had[name]++
		if name != "" && had[name] > 1 {
			return api.ErrName, t.place + len("(?<")
		}
	}
	if wantSize(tokens).Cmp(big.NewInt(1000)) > 0 {
		return api.ErrBig, 0
	}
	return api.OK, 0
}

func number(digits string) int {
	n, _ := strconv.Atoi(digits)
	return n
}

// badRange tells the place of the first range of a class that goes down; 0, if there is none.
func badRange(class string) int {
	if class == "" {
		return 0
	}
	at := 1
	if class[at] == '^' {
		at++
	}
	for at < len(class)-1 {
		item := itemForm.FindStringSubmatch(class[at:])
		if item[2] != "" && oneRune(item[2]) < oneRune(item[1]) {
			return at
		}
		at += len(item[0])
	}
	return 0
}

func oneRune(one string) rune {
	if len(one) == 2 && one[0] == '\\' {
		one = strings.NewReplacer("n", "\n", "t", "\t", "r", "\r").Replace(one[1:])
	}
	r, _ := utf8.DecodeRuneInString(one)
	return r
}

// wantSize counts in numbers that have no bound.
func wantSize(tokens []token) *big.Int {
	one := big.NewInt(1)
	sums := []*big.Int{new(big.Int)} // of each open bracket, without its newest atom
	atom := new(big.Int)             // the newest atom's
	for _, t := range tokens {
		top := len(sums) - 1
		if t.sort == "times" {
			atom = new(big.Int).Mul(copiesOf(t), new(big.Int).Add(atom, one))
			continue
		}
		sums[top] = new(big.Int).Add(sums[top], atom)
		atom = one
		switch t.sort {
		case "open":
			sums = append(sums, new(big.Int))
			atom = new(big.Int)
		case "close":
			atom = new(big.Int).Add(sums[top], one)
			sums = sums[:top]
		}
	}
	return new(big.Int).Add(sums[0], atom)
}

func copiesOf(t token) *big.Int {
	low, high := number(t.parts["low"]), number(t.parts["high"])
	switch {
	case t.parts["times"][0] == '+':
		return big.NewInt(2)
	case t.parts["times"][0] != '{':
		return big.NewInt(1)
	case t.parts["high"] != "":
		return big.NewInt(int64(high))
	case t.parts["comma"] != "":
		return big.NewInt(int64(low) + 1)
	}
	return big.NewInt(int64(low))
}

// wantNames tells the names of the groups of a pattern.
func wantNames(text string) []string {
	names := []string{}
	tokens, _, _ := cut(text)
	for _, t := range tokens {
		if t.sort == "open" && t.parts["open"] != "(?:" && t.parts["open"] != "(?i:" {
			names = append(names, t.parts["name"])
		}
	}
	return names
}
