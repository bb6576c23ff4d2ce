package lex_test

import (
	"cmp"
	"regexp"
	"slices"
	"strconv"
	"strings"

	"sluice/api"
)

// The functions here are a second writing of the chapter: patterns cut the text to its end, over all faults;
// the least of these is told.

type pattern struct {
	kind int
	form *regexp.Regexp
}

// Parts of a text that are no tokens.
const (
	gap  = -1
	none = -2
)

func patterns() []pattern {
	return []pattern{
		{gap, regexp.MustCompile(`^[ \t\r\n]+`)},
		{gap, regexp.MustCompile(`^//[^\n]*`)},
		{api.Word, regexp.MustCompile(`^(int|lock|unlock|thread|if|else|while|print|fence|cas)\b`)},
		{api.Name, regexp.MustCompile(`^[a-z_][a-z0-9_]*`)},
		{api.Number, regexp.MustCompile(`^[0-9]+`)},
		{api.Sign, regexp.MustCompile(`^([<>=!]=|&&|\|\|)`)},
		{api.Sign, regexp.MustCompile(`^[-+*<>!(){};,=]`)},
		{none, regexp.MustCompile(`^(?s:.)`)},
	}
}

// plain is the text with another byte that cannot stand in place of each one from 128 on, as patterns take these for parts of runes.
func plain(text string) string {
	list := []byte(text)
	for i := range list {
		if list[i] >= 128 {
			list[i] = 1
		}
	}
	return string(list)
}

// scanned tells what Scan has to tell.
func scanned(text string, all []pattern) ([]api.Token, api.Fault) {
	if len(text) > 4000 {
		return nil, api.Fault{Code: api.ErrSize}
	}
	var tokens []api.Token
	faults, rest := badBytes(text), plain(text)
	for at := 0; at < len(text); {
		kind, n := cut(rest[at:], all)
		t := api.Token{Kind: kind, At: at, Text: text[at : at+n]}
		if kind == api.Number {
			t.Num, _ = strconv.Atoi(t.Text)
		}
		if !may(t) {
			faults = append(faults, api.Fault{Code: api.ErrSyntax, At: at})
		}
		if kind != gap {
			tokens = append(tokens, t)
		}
		at += n
	}
	if len(faults) == 0 {
		return tokens, api.Fault{}
	}
	return nil, slices.MinFunc(faults, func(a, b api.Fault) int { return cmp.Compare(a.At, b.At) })
}

// badBytes stand ahead of all other faults, so of one byte they are the first that are least.
func badBytes(text string) []api.Fault {
	var faults []api.Fault
	for at := range len(text) {
		if c := text[at]; !strings.ContainsRune("\t\n\r", rune(c)) && (c < 32 || c > 126) {
			faults = append(faults, api.Fault{Code: api.ErrRune, At: at})
		}
	}
	return faults
}

// cut tells what the text begins with, and how many bytes that is.
func cut(text string, all []pattern) (int, int) {
	for _, p := range all {
		if s := p.form.FindString(text); s != "" {
			return p.kind, len(s)
		}
	}
	return none, 1
}

func may(t api.Token) bool {
	switch t.Kind {
	case none:
		return false
	case api.Name:
		return len(t.Text) <= 12
	case api.Number:
		return len(t.Text) <= 9 && t.Text == strconv.Itoa(t.Num)
	}
	return true
}

// dice gives numbers that are the same each time, and look as if they were not.
type dice uint64

func (d *dice) below(n int) int {
	*d = *d*6364136223846793005 + 1442695040888963407
	return int(uint64(*d)>>33) % n
}
