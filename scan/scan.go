// Package scan splits a text into tokens.
package scan

import "relay/api"

// The kinds of tokens.
const (
	End    = 0 // the end of the text
	Name   = 1
	Kept   = 2 // a word that is no name
	Number = 3
	Sign   = 4
	Wrong  = 5 // what stands nowhere in a program
)

// Token: At is the place of its first byte. The end of the text is a token of no bytes, so that a text that ends too early has a token that cannot stand there.
type Token struct {
	Kind int
	At   int
	Text string
}

// The classes of bytes.
const (
	blank  = 0
	letter = 1
	digit  = 2
	sign   = 3
	other  = 4
)

// Tokens lists the tokens of a text; the last one is its end.
func Tokens(text string) []Token {
	var list []Token
	at := 0
	for at < len(text) {
		class := classOf(text[at])
		end := runEnd(text, at+1, class)
		if class != blank {
			list = append(list, Token{Kind: kindOf(text[at:end], class), At: at, Text: text[at:end]})
		}
		at = end
	}
	return append(list, Token{Kind: End, At: len(text)})
}

func classOf(b byte) int {
	switch {
	case b == ' ' || b == '\n':
		return blank
	case 'a' <= b && b <= 'z':
		return letter
	case '0' <= b && b <= '9':
		return digit
	}
	switch b {
	case '(', ')', ';', '=', '+', '-', '*', '/', '<', '&', '|':
		return sign
	}
	return other
}

// runEnd tells where the run ends that goes on at a place; bytes that are no letters or digits stand alone.
func runEnd(text string, at int, class int) int {
	if class != letter && class != digit {
		return at
	}
	for at < len(text) && classOf(text[at]) == class {
		at++
	}
	return at
}

func kindOf(text string, class int) int {
	switch class {
	case letter:
		return wordKind(text)
	case digit:
		return numberKind(text)
	case sign:
		return Sign
	}
	return Wrong
}

func wordKind(text string) int {
	switch text {
	case "in", "int", "bool", "at", "if", "fby", "not", "true", "false":
		return Kept
	}
	if len(text) > api.MaxName {
		return Wrong
	}
	return Name
}

// numberKind counts noughts in front, too: the limit is on the digits, not on the value.
func numberKind(text string) int {
	if len(text) > api.MaxDigits {
		return Wrong
	}
	return Number
}
