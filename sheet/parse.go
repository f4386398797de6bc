package sheet

import (
	"slices"
	"strings"

	"abaculus/api"
	"abaculus/frac"
)

// These are the pieces of the text format.
const (
	lineEnd   = "\n"
	separator = ","
	missing   = "?"
	number    = "number"
	choice    = "choice"
	nameEnd   = ':'
	wordsFrom = '('
	wordEnd   = '|'
	wordsTo   = ')'
)

// Parse returns the sheet that s writes, or its first error with the line,
// counted from 1, and the index of the column.
func Parse(s string) (Sheet, api.Fault) {
	if len(s) > api.MaxText {
		return Sheet{}, api.Fault{Kind: api.ErrLong}
	}
	lines := strings.Split(strings.TrimSuffix(s, lineEnd), lineEnd)
	cols, at, e := parseParts(lines[0], parseColumn)
	if e != api.OK {
		return Sheet{}, api.Fault{Kind: e, Line: 1, At: at}
	}
	t := Sheet{Cols: cols}
	for i, line := range lines[1:] {
		row, at, e := parseRow(cols, i, line)
		if e != api.OK {
			return Sheet{}, api.Fault{Kind: e, Line: i + 2, At: at}
		}
		t.Rows = append(t.Rows, row)
	}
	return t, api.Fault{}
}

// parseParts returns what parse makes of each part of a line, given what it
// made of those before it; or the first error and the index of its part.
func parseParts[T any](line string, parse func(before []T, part string) (T, api.Errno)) ([]T, int, api.Errno) {
	var list []T
	for part := range strings.SplitSeq(line, separator) {
		x, e := parse(list, part)
		if e != api.OK {
			return nil, len(list), e
		}
		list = append(list, x)
	}
	return list, 0, api.OK
}

// parseColumn returns the column that s writes after the columns before.
func parseColumn(before []Col, s string) (Col, api.Errno) {
	c, ok := readColumn(s)
	switch {
	case !ok || !hasNames(c):
		return Col{}, api.ErrForm
	case len(before) >= api.MaxCols || len(c.Words) > api.MaxWords:
		return Col{}, api.ErrLong
	case hasRepeats(before, c):
		return Col{}, api.ErrIs
	}
	return c, api.OK
}

// state says which part of a column's text is being read.
type state int

const (
	inName state = iota
	inKind
	inWord
	afterWords
)

// readColumn returns the column that s writes, whose Name and Words need not
// be names, or false if s has not the form of a column.
func readColumn(s string) (Col, bool) {
	var c Col
	now, from := inName, 0 // the part that is being read begins at from
	for i, b := range []byte(s) {
		switch now {
		case inName:
			if b == nameEnd {
				c.Name = strings.Clone(s[from:i])
				now, from = inKind, i+1
			}
		case inKind:
			if b == wordsFrom && s[from:i] == choice {
				c.Kind = Choice
				now, from = inWord, i+1
			}
		case inWord:
			if b == wordEnd || b == wordsTo {
				c.Words = append(c.Words, strings.Clone(s[from:i]))
				from = i + 1
			}
			if b == wordsTo {
				now = afterWords
			}
		case afterWords:
			return Col{}, false
		}
	}
	if now == inKind && s[from:] == number {
		c.Kind = Number
	}
	return c, c.Kind == Number || now == afterWords
}

// parseRow returns the row with that index, or its first error with the index
// of the column.
func parseRow(cols []Col, index int, line string) ([]Cell, int, api.Errno) {
	if index >= api.MaxRows {
		return nil, 0, api.ErrLong
	}
	if strings.Count(line, separator)+1 != len(cols) {
		return nil, 0, api.ErrShape
	}
	return parseParts(line, func(before []Cell, part string) (Cell, api.Errno) {
		return parseCell(cols[len(before)], part)
	})
}

// parseCell returns the cell of column c that s writes.
func parseCell(c Col, s string) (Cell, api.Errno) {
	if s == missing {
		return Cell{Lacks: true}, api.OK
	}
	if c.Kind == Number {
		q, ok := frac.Parse(s)
		if !ok {
			return Cell{}, api.ErrForm
		}
		return Cell{Q: q}, api.OK
	}
	word := slices.Index(c.Words, s)
	if word < 0 {
		return Cell{}, api.ErrName
	}
	return Cell{Word: word}, api.OK
}
