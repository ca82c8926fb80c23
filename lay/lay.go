// Package lay lays a right text out anew.
package lay

import "relay/scan"

// Out tells the text's tokens again with blanks and line ends as the document lays them. The blanks follow from the tokens alone, so no tree is needed.
func Out(text string) string {
	var out []byte
	tokens := scan.Tokens(text)
	for i, t := range tokens {
		if i > 0 {
			out = append(out, gap(tokens[i-1].Text, t.Text)...)
		}
		out = append(out, bare(t)...)
	}
	return string(out)
}

// gap tells what stands between two tokens. The end of the text is a token too: the last line end stands ahead of it.
func gap(ahead string, behind string) string {
	switch {
	case ahead == ";":
		return "\n"
	case ahead == "(" || behind == ")" || behind == ";":
		return ""
	}
	return " "
}

// bare tells a token without noughts in front.
func bare(t scan.Token) string {
	if t.Kind != scan.Number {
		return t.Text
	}
	first := 0
	for first < len(t.Text)-1 && t.Text[first] == '0' {
		first++
	}
	return t.Text[first:]
}
