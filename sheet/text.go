package sheet

import (
	"strings"

	"abaculus/api"
)

// Text returns the error of Check, or the text of t.
func Text(t Sheet) (string, api.Errno) {
	if e := Check(t); e != api.OK {
		return "", e
	}
	var text strings.Builder
	writeLine(&text, t.Cols, func(_ int, c Col) string { return columnText(c) })
	for _, row := range t.Rows {
		writeLine(&text, row, func(i int, x Cell) string { return cellText(t.Cols[i], x) })
	}
	return text.String(), api.OK
}

// writeLine writes a line of the texts of the elements of l.
func writeLine[T any](to *strings.Builder, l []T, text func(i int, x T) string) {
	for i, x := range l {
		if i > 0 {
			to.WriteString(separator)
		}
		to.WriteString(text(i, x))
	}
	to.WriteString(lineEnd)
}

func columnText(c Col) string {
	text := c.Name + string(nameEnd)
	if c.Kind == Number {
		return text + number
	}
	words := strings.Join(c.Words, string(wordEnd))
	return text + choice + string(wordsFrom) + words + string(wordsTo)
}

func cellText(c Col, x Cell) string {
	switch {
	case x.Lacks:
		return missing
	case c.Kind == Number:
		return x.Q.Text()
	}
	return c.Words[x.Word]
}
