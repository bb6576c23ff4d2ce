package lex

import (
	"strconv"
	"strings"

	"sluice/api"
)

const (
	maxName   = 12 // bytes
	maxDigits = 9
	noteSign  = "//"
)

// Those of two bytes stand first, as the longest one that can stand is taken.
var signs = [...]string{
	"<=", ">=", "==", "!=", "&&", "||",
	"+", "-", "*", "<", ">", "!", "(", ")", "{", "}", ";", ",", "=",
}

// scanner goes through a text from the left, and gives up by panic at the first fault.
// Whether a byte can stand is asked where a token begins and in notes alone: so a token that may not be,
// ended by such a byte, is told ahead of it.
type scanner struct {
	text string
	at   int // the byte that is next
}

// toToken goes over what parts tokens, and tells whether anything comes behind it.
func (s *scanner) toToken() bool {
	for s.at < len(s.text) {
		switch {
		case isBlank(s.text[s.at]):
			s.at++
		case strings.HasPrefix(s.text[s.at:], noteSign):
			s.note()
		default:
			return true
		}
	}
	return false
}

// note goes over a note, whose bytes have to be such as can stand, too.
func (s *scanner) note() {
	s.take(func(b byte) bool {
		s.askByte()
		return b != '\n'
	})
}

// token is asked only where a byte is next that parts no tokens.
func (s *scanner) token() api.Token {
	s.askByte()
	switch b := s.text[s.at]; {
	case isLetter(b):
		return s.name()
	case isDigit(b):
		return s.number()
	}
	return s.sign()
}

func (s *scanner) name() api.Token {
	text := s.take(func(b byte) bool { return isLetter(b) || isDigit(b) })
	t := s.taken(kindOfName(text), text)
	if len(text) > maxName {
		panic(badToken(t.At))
	}
	return t
}

func (s *scanner) number() api.Token {
	text := s.take(isDigit)
	t := s.taken(api.Number, text)
	n, err := strconv.Atoi(text)
	if err != nil || len(text) > maxDigits || text[0] == '0' && len(text) > 1 {
		panic(badToken(t.At))
	}
	t.Num = n
	return t
}

func (s *scanner) sign() api.Token {
	for _, sign := range signs {
		if strings.HasPrefix(s.text[s.at:], sign) {
			s.at += len(sign)
			return s.taken(api.Sign, sign)
		}
	}
	panic(badToken(s.at))
}

// take goes over all bytes that go on, and answers them.
func (s *scanner) take(goesOn func(b byte) bool) string {
	from := s.at
	for s.at < len(s.text) && goesOn(s.text[s.at]) {
		s.at++
	}
	return s.text[from:s.at]
}

// taken is the token whose last byte was gone over just now.
func (s *scanner) taken(kind int, text string) api.Token {
	// A piece of the text would share its memory, and keep all of it.
	return api.Token{Kind: kind, At: s.at - len(text), Text: strings.Clone(text)}
}

// askByte gives up where the byte that is next cannot stand in a text.
func (s *scanner) askByte() {
	if b := s.text[s.at]; (b < ' ' || b > '~') && !isBlank(b) {
		panic(badByte(s.at))
	}
}

// kindOfName tells names and words apart.
func kindOfName(text string) int {
	switch text {
	case "int", "lock", "unlock", "thread", "if", "else", "while", "print", "fence", "cas":
		return api.Word
	}
	return api.Name
}

func isBlank(b byte) bool {
	return b == ' ' || b == '\t' || b == '\r' || b == '\n'
}

func isLetter(b byte) bool {
	return b >= 'a' && b <= 'z' || b == '_'
}

func isDigit(b byte) bool {
	return b >= '0' && b <= '9'
}
