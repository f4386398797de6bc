package sheet

import (
	"math/rand"
	"regexp"
	"slices"
	"strconv"
	"strings"
	"testing"

	"abaculus/api"
	"abaculus/frac"
)

// columnForm is the form of a column but for how many words there are.
var columnForm = regexp.MustCompile(`^([a-zA-Z][a-zA-Z0-9_]{0,19}):(number|choice\([a-zA-Z][a-zA-Z0-9_]{0,19}(\|[a-zA-Z][a-zA-Z0-9_]{0,19})*\))$`)

// expected is Parse by its promise.
func expected(s string) (Sheet, api.Fault) {
	if len(s) > api.MaxText {
		return Sheet{}, api.Fault{Kind: api.ErrLong}
	}
	lines := strings.Split(s, "\n")
	if len(lines) > 1 && lines[len(lines)-1] == "" {
		lines = lines[:len(lines)-1]
	}
	var out Sheet
	for i, text := range strings.Split(lines[0], ",") {
		c, e := expectedColumn(out.Cols, text)
		if e != api.OK {
			return Sheet{}, api.Fault{Kind: e, Line: 1, At: i}
		}
		out.Cols = append(out.Cols, c)
	}
	for i := 1; i < len(lines); i++ {
		if i > api.MaxRows {
			return Sheet{}, api.Fault{Kind: api.ErrLong, Line: i + 1}
		}
		texts := strings.Split(lines[i], ",")
		if len(texts) != len(out.Cols) {
			return Sheet{}, api.Fault{Kind: api.ErrShape, Line: i + 1}
		}
		var row []Cell
		for k, text := range texts {
			x, e := expectedCell(out.Cols[k], text)
			if e != api.OK {
				return Sheet{}, api.Fault{Kind: e, Line: i + 1, At: k}
			}
			row = append(row, x)
		}
		out.Rows = append(out.Rows, row)
	}
	return out, api.Fault{}
}

func expectedColumn(earlier []Col, s string) (Col, api.Errno) {
	form := columnForm.FindStringSubmatch(s)
	if form == nil {
		return Col{}, api.ErrForm
	}
	c := Col{Name: form[1], Kind: Number}
	if form[2] != "number" {
		c.Kind = Choice
		c.Words = strings.Split(strings.TrimSuffix(strings.TrimPrefix(form[2], "choice("), ")"), "|")
	}
	if len(earlier) == api.MaxCols || len(c.Words) > api.MaxWords {
		return Col{}, api.ErrLong
	}
	for _, d := range earlier {
		if d.Name == c.Name {
			return Col{}, api.ErrIs
		}
	}
	seen := map[string]bool{}
	for _, word := range c.Words {
		if seen[word] {
			return Col{}, api.ErrIs
		}
		seen[word] = true
	}
	return c, api.OK
}

func expectedCell(c Col, s string) (Cell, api.Errno) {
	if s == "?" {
		return Cell{Lacks: true}, api.OK
	}
	if c.Kind == Number {
		if q, ok := frac.Parse(s); ok {
			return Cell{Q: q}, api.OK
		}
		return Cell{}, api.ErrForm
	}
	for i, word := range c.Words {
		if word == s {
			return Cell{Word: i}, api.OK
		}
	}
	return Cell{}, api.ErrName
}

func agrees(t *testing.T, s string) api.Fault {
	t.Helper()
	want, wantFault := expected(s)
	got, f := Parse(s)
	if f != wantFault || !Same(got, want) || f != (api.Fault{}) && !isZero(got) {
		t.Errorf("%.80q: %v, not %v", s, f, wantFault)
	}
	if f == (api.Fault{}) && Check(got) != api.OK {
		t.Errorf("%.80q: Check of what was read: %v", s, Check(got))
	}
	return f
}

// 6.2

func TestParse(t *testing.T) {
	s := parsed(t, "x:number,k:choice(a|b),Y_2:number\n1/2,b,-0.50\n?,?,?\n-3,a,2/4")
	half, _ := frac.Over(1, 2)
	want := Sheet{
		Cols: []Col{{Name: "x", Kind: Number}, choices("k", "a", "b"), {Name: "Y_2", Kind: Number}},
		Rows: [][]Cell{
			{{Q: half}, {Word: 1}, {Q: half.Neg()}},
			{{Lacks: true}, {Lacks: true}, {Lacks: true}},
			{cell(-3), {Word: 0}, {Q: half}},
		},
	}
	if !Same(s, want) {
		t.Error(s)
	}
	for _, text := range []string{"x:number", "x:number\n", "k:choice(x)", "k:choice(x)\n"} {
		if s := parsed(t, text); len(s.Rows) != 0 || len(s.Cols) != 1 {
			t.Error(text, s)
		}
	}
	for _, end := range []string{"", "\n"} {
		if s := parsed(t, "x:number\n1\n2"+end); len(s.Rows) != 2 {
			t.Error(s)
		}
	}
}

func TestFirstLine(t *testing.T) {
	words := strings.Join(letters(api.MaxWords), "|")
	columns := strings.Join(letters(api.MaxCols), ":number,") + ":number"
	for s, want := range map[string]api.Fault{
		"":                  {Kind: api.ErrForm, Line: 1},
		"\n":                {Kind: api.ErrForm, Line: 1},
		"\n\n":              {Kind: api.ErrForm, Line: 1},
		",":                 {Kind: api.ErrForm, Line: 1},
		"\nx:number":        {Kind: api.ErrForm, Line: 1},
		"x":                 {Kind: api.ErrForm, Line: 1},
		"x:":                {Kind: api.ErrForm, Line: 1},
		":":                 {Kind: api.ErrForm, Line: 1},
		":number":           {Kind: api.ErrForm, Line: 1},
		"x:numbe":           {Kind: api.ErrForm, Line: 1},
		"x:numbers":         {Kind: api.ErrForm, Line: 1},
		"x:Number":          {Kind: api.ErrForm, Line: 1},
		"x:number()":        {Kind: api.ErrForm, Line: 1},
		"x:number(a)":       {Kind: api.ErrForm, Line: 1},
		"x::number":         {Kind: api.ErrForm, Line: 1},
		"x:number:":         {Kind: api.ErrForm, Line: 1},
		"x:number:number":   {Kind: api.ErrForm, Line: 1},
		" x:number":         {Kind: api.ErrForm, Line: 1},
		"x :number":         {Kind: api.ErrForm, Line: 1},
		"x: number":         {Kind: api.ErrForm, Line: 1},
		"x:number ":         {Kind: api.ErrForm, Line: 1},
		"x:number\r\n1\r":   {Kind: api.ErrForm, Line: 1},
		"x:choice":          {Kind: api.ErrForm, Line: 1},
		"x:choice(":         {Kind: api.ErrForm, Line: 1},
		"x:choice)":         {Kind: api.ErrForm, Line: 1},
		"x:choice()":        {Kind: api.ErrForm, Line: 1},
		"x:choice(|)":       {Kind: api.ErrForm, Line: 1},
		"x:choice(a":        {Kind: api.ErrForm, Line: 1},
		"x:choice(a|":       {Kind: api.ErrForm, Line: 1},
		"x:choice(a|)":      {Kind: api.ErrForm, Line: 1},
		"x:choice(|a)":      {Kind: api.ErrForm, Line: 1},
		"x:choice(a||b)":    {Kind: api.ErrForm, Line: 1},
		"x:choice(a) ":      {Kind: api.ErrForm, Line: 1},
		"x:choice(a))":      {Kind: api.ErrForm, Line: 1},
		"x:choice((a)":      {Kind: api.ErrForm, Line: 1},
		"x:choice(a|(b)":    {Kind: api.ErrForm, Line: 1},
		"x:choice(a)|b)":    {Kind: api.ErrForm, Line: 1},
		"x:choice(a)(b)":    {Kind: api.ErrForm, Line: 1},
		"x:choice(a:b)":     {Kind: api.ErrForm, Line: 1},
		"x:choice(?)":       {Kind: api.ErrForm, Line: 1},
		"x:choice(1)":       {Kind: api.ErrForm, Line: 1},
		"x:choice (a)":      {Kind: api.ErrForm, Line: 1},
		"x:choice( a)":      {Kind: api.ErrForm, Line: 1},
		"x:choices(a)":      {Kind: api.ErrForm, Line: 1},
		"x:(a)":             {Kind: api.ErrForm, Line: 1},
		"x:y:choice(a)":     {Kind: api.ErrForm, Line: 1},
		"x(a):choice(a)":    {Kind: api.ErrForm, Line: 1},
		"x:choice(a,b)":     {Kind: api.ErrForm, Line: 1},
		"x:choice(a\n|b)":   {Kind: api.ErrForm, Line: 1},
		"x:number,":         {Kind: api.ErrForm, Line: 1, At: 1},
		",x:number":         {Kind: api.ErrForm, Line: 1},
		"x:number,,":        {Kind: api.ErrForm, Line: 1, At: 1},
		"x:number,y":        {Kind: api.ErrForm, Line: 1, At: 1},
		"x:number;y:number": {Kind: api.ErrForm, Line: 1},

		// ErrLong
		columns:                                   {},
		columns + ",u:number":                     {Kind: api.ErrLong, Line: 1, At: api.MaxCols},
		columns + ",u:number,v:number":            {Kind: api.ErrLong, Line: 1, At: api.MaxCols},
		columns + ",a:number":                     {Kind: api.ErrLong, Line: 1, At: api.MaxCols},
		columns + ",u:choice(a|a)":                {Kind: api.ErrLong, Line: 1, At: api.MaxCols},
		columns + ",u:numbers":                    {Kind: api.ErrForm, Line: 1, At: api.MaxCols},
		columns + ",":                             {Kind: api.ErrForm, Line: 1, At: api.MaxCols},
		columns + ",u:number,":                    {Kind: api.ErrLong, Line: 1, At: api.MaxCols},
		"a:number," + columns:                     {Kind: api.ErrIs, Line: 1, At: 1},
		"x:choice(" + words + ")":                 {},
		"x:choice(" + words + "|z)":               {Kind: api.ErrLong, Line: 1},
		"y:number,x:choice(" + words + "|z)":      {Kind: api.ErrLong, Line: 1, At: 1},
		"x:choice(" + words + "|a)":               {Kind: api.ErrLong, Line: 1},
		"x:number,x:choice(" + words + "|z)":      {Kind: api.ErrLong, Line: 1, At: 1},
		"x:choice(" + words + "|z|1)":             {Kind: api.ErrForm, Line: 1},
		"x:choice(" + words + "|z|)":              {Kind: api.ErrForm, Line: 1},
		"x:choice(" + words + "|z":                {Kind: api.ErrForm, Line: 1},
		"9:choice(" + words + "|z)":               {Kind: api.ErrForm, Line: 1},
		"x:choice(" + words + "|z),":              {Kind: api.ErrLong, Line: 1},
		"x:choice(" + words + "|z),x:number\n1,2": {Kind: api.ErrLong, Line: 1},

		// ErrIs
		"x:number,x:number":               {Kind: api.ErrIs, Line: 1, At: 1},
		"x:number,y:number,x:choice(a)":   {Kind: api.ErrIs, Line: 1, At: 2},
		"x:number,y:number,y:choice(a|a)": {Kind: api.ErrIs, Line: 1, At: 2},
		"x:choice(a|a)":                   {Kind: api.ErrIs, Line: 1},
		"x:choice(a|b|c|b)":               {Kind: api.ErrIs, Line: 1},
		"y:number,x:choice(a|b|a)":        {Kind: api.ErrIs, Line: 1, At: 1},
		"x:number,x:numbers":              {Kind: api.ErrForm, Line: 1, At: 1},
		"x:number,x:choice(a|)":           {Kind: api.ErrForm, Line: 1, At: 1},
		"x:choice(a|a|)":                  {Kind: api.ErrForm, Line: 1},
		"x:number,x:number,":              {Kind: api.ErrIs, Line: 1, At: 1},
		"x:choice(a|a),y":                 {Kind: api.ErrIs, Line: 1},

		// the first line before the others
		"x:number,x:number\n1":     {Kind: api.ErrIs, Line: 1, At: 1},
		"x:choice(a|A),X:number\n": {},
	} {
		if f := agrees(t, s); f != want {
			t.Errorf("%q: %v, not %v", s, f, want)
		}
	}
}

func TestNamesInText(t *testing.T) {
	for s, ok := range namesAndNot() {
		if strings.ContainsAny(s, ",\n|") {
			continue
		}
		want := api.Fault{Kind: api.ErrForm, Line: 1}
		if ok {
			want = api.Fault{}
		}
		if f := agrees(t, s+":number"); f != want {
			t.Errorf("%q: %v", s, f)
		}
		if f := agrees(t, "x:choice("+s+")"); f != want {
			t.Errorf("%q: %v", s, f)
		}
	}
}

func TestOtherLines(t *testing.T) {
	digits := strings.Repeat("9", api.MaxDigits)
	for s, want := range map[string]api.Fault{
		"x:number\n\n":                               {Kind: api.ErrForm, Line: 2},
		"x:number\n1\n\n":                            {Kind: api.ErrForm, Line: 3},
		"x:number\n\n1":                              {Kind: api.ErrForm, Line: 2},
		"x:choice(a)\n\n":                            {Kind: api.ErrName, Line: 2},
		"x:number,y:number\n\n":                      {Kind: api.ErrShape, Line: 2},
		"x:number\n1,2\n":                            {Kind: api.ErrShape, Line: 2},
		"x:number\n,\n":                              {Kind: api.ErrShape, Line: 2},
		"x:number\n1,\n":                             {Kind: api.ErrShape, Line: 2},
		"x:number,y:number\n1":                       {Kind: api.ErrShape, Line: 2},
		"x:number,y:number\n1,2\nq":                  {Kind: api.ErrShape, Line: 3},
		"x:number,y:number\n1,2\n1,2,q":              {Kind: api.ErrShape, Line: 3},
		"x:number,y:number\nq,r,s":                   {Kind: api.ErrShape, Line: 2},
		"x:number,y:number\nq,r\ns":                  {Kind: api.ErrForm, Line: 2},
		"x:number,y:number\n1,r\ns":                  {Kind: api.ErrForm, Line: 2, At: 1},
		"x:choice(a),y:number\nb,r":                  {Kind: api.ErrName, Line: 2},
		"y:number,x:choice(a)\nb,r":                  {Kind: api.ErrForm, Line: 2},
		"y:number,x:choice(a)\n1,r":                  {Kind: api.ErrName, Line: 2, At: 1},
		"x:number,y:choice(a)\n1.,b":                 {Kind: api.ErrForm, Line: 2},
		"x:number\n 1":                               {Kind: api.ErrForm, Line: 2},
		"x:number\n1 ":                               {Kind: api.ErrForm, Line: 2},
		"x:number\n1\r\n":                            {Kind: api.ErrForm, Line: 2},
		"x:number\n+1":                               {Kind: api.ErrForm, Line: 2},
		"x:number\n1e3":                              {Kind: api.ErrForm, Line: 2},
		"x:number\n1/0":                              {Kind: api.ErrForm, Line: 2},
		"x:number\n??":                               {Kind: api.ErrForm, Line: 2},
		"x:number\n? ":                               {Kind: api.ErrForm, Line: 2},
		"x:choice(a)\n??":                            {Kind: api.ErrName, Line: 2},
		"x:choice(a)\nA":                             {Kind: api.ErrName, Line: 2},
		"x:choice(a)\na ":                            {Kind: api.ErrName, Line: 2},
		"x:choice(a)\n0":                             {Kind: api.ErrName, Line: 2},
		"x:choice(a|b)\na|b":                         {Kind: api.ErrName, Line: 2},
		"x:choice(a)\nx":                             {Kind: api.ErrName, Line: 2},
		"x:choice(ab)\na":                            {Kind: api.ErrName, Line: 2},
		"x:choice(a),y:choice(b)\na,a":               {Kind: api.ErrName, Line: 2, At: 1},
		"x:number\n" + digits:                        {},
		"x:number\n-" + digits + "/" + digits + "\n": {},
		"x:number\n" + digits + "9":                  {Kind: api.ErrForm, Line: 2},
		"x:number\n-0.0\n?\n00\n":                    {Kind: api.ErrForm, Line: 4},
		"x:choice(a|b)\nb\n?\na":                     {},
	} {
		if f := agrees(t, s); f != want {
			t.Errorf("%q: %v, not %v", s, f, want)
		}
	}
}

func TestManyRows(t *testing.T) {
	full := "x:number\n" + strings.Repeat("1\n", api.MaxRows)
	short := "x:number\n" + strings.Repeat("1\n", api.MaxRows-1)
	for s, want := range map[string]api.Fault{
		full:                                     {},
		strings.TrimSuffix(full, "\n"):           {},
		full + "1":                               {Kind: api.ErrLong, Line: api.MaxRows + 2},
		full + "1\n":                             {Kind: api.ErrLong, Line: api.MaxRows + 2},
		full + "\n":                              {Kind: api.ErrLong, Line: api.MaxRows + 2},
		full + "q":                               {Kind: api.ErrLong, Line: api.MaxRows + 2},
		full + "q,q\n":                           {Kind: api.ErrLong, Line: api.MaxRows + 2},
		full + "1\n1\n1":                         {Kind: api.ErrLong, Line: api.MaxRows + 2},
		short + "q\n1\n":                         {Kind: api.ErrForm, Line: api.MaxRows + 1},
		short + "1,1\n1\n":                       {Kind: api.ErrShape, Line: api.MaxRows + 1},
		"x:number\n1\n" + full[9:]:               {Kind: api.ErrLong, Line: api.MaxRows + 2},
		"x:number\nq\n" + full[9:]:               {Kind: api.ErrForm, Line: 2},
		"x:number\n" + strings.Repeat("\n", 400): {Kind: api.ErrForm, Line: 2},
	} {
		if f := agrees(t, s); f != want {
			t.Errorf("%q: %v, not %v", s, f, want)
		}
	}
}

func TestLongTexts(t *testing.T) {
	long := func(s, fill string) string {
		return s + strings.Repeat(fill, (api.MaxText-len(s))/len(fill))
	}
	for _, s := range []string{"", "x:number,", "x:number\n", "x:number\n1\n", "x:choice(", "x:choice(a", "x:choice(a|", "x:number,y:number\n1,", "k:choice(a)\n"} {
		for _, fill := range []string{"x", "1", ",", "\n", "1\n", "a|", "x:number,", "\xff", ":", "(", ")", "a\n", "?,"} {
			full := long(s, fill)
			agrees(t, full)
			if f := agrees(t, full+fill); f != (api.Fault{Kind: api.ErrLong}) {
				t.Errorf("%q %q: %v", s, fill, f)
			}
		}
	}
	// a valid text of just MaxText bytes, and of one more
	row := strings.Repeat("1,", 19)
	cols := strings.Join(letters(20), ":number,") + ":number\n"
	fits := cols
	for len(fits)+2*api.MaxDigits+100 < api.MaxText {
		fits += row + strings.Repeat("7", api.MaxDigits) + "\n"
	}
	rest := api.MaxText - len(fits) - len(row) - len("/")
	fits += row + strings.Repeat("8", rest/2) + "/" + strings.Repeat("8", rest-rest/2)
	if f := agrees(t, fits); f != (api.Fault{}) || len(fits) != api.MaxText {
		t.Error(f, len(fits))
	}
	if f := agrees(t, fits+"\n"); f != (api.Fault{Kind: api.ErrLong}) {
		t.Error(f)
	}
}

// TestMutatedTexts changes valid texts at a few places.
func TestMutatedTexts(t *testing.T) {
	gen := rand.New(rand.NewSource(6))
	texts := []string{
		"x:number,k:choice(a|b)\n1/2,b\n?,?\n-0.5,a\n",
		"A_1:choice(no|yes|z9),B:number,c:choice(q)\nno,1,q\n?,-7/21,?\nz9,?,q",
		"a:number,b:number,c:number\n0,0,0\n1,2,3\n",
	}
	pieces := []string{",", "\n", "|", ":", "(", ")", "?", "a", "b", "1", "/", ".", "-", "number", "choice", "choice(", ":number", "", "", " ", "\x00", "k:choice(a|b)"}
	kinds := map[api.Errno]int{}
	for range 60000 {
		s := texts[gen.Intn(len(texts))]
		for range 1 + gen.Intn(3) {
			from := gen.Intn(len(s) + 1)
			to := min(len(s), from+gen.Intn(4))
			s = s[:from] + pieces[gen.Intn(len(pieces))] + s[to:]
		}
		kinds[agrees(t, s).Kind]++
	}
	for _, kind := range []api.Errno{api.OK, api.ErrForm, api.ErrIs, api.ErrShape, api.ErrName} {
		if kinds[kind] < 30 {
			t.Error("too few of kind", kind, kinds)
		}
	}
}

func TestParsedSheetsShareNoMemory(t *testing.T) {
	text := "x:number,k:choice(a|b),l:choice(a|b)\n1,b,a\n2,a,b\n"
	s, other := parsed(t, text), parsed(t, text)
	for i := range s.Cols {
		s.Cols[i].Words = append(s.Cols[i].Words, "more")
		s.Rows[0] = append(s.Rows[0], Cell{})
	}
	if !Same(other, parsed(t, text)) || !slices.Equal(s.Cols[2].Words, []string{"a", "b", "more"}) || s.Rows[1][0].Q.Text() != "2" {
		t.Error(s)
	}
	s = parsed(t, text)
	for i := range 3 {
		part := copied(s)
		spoil(Sheet{Cols: s.Cols[i : i+1]})
		part.Cols[i] = Col{Name: "spoiled"}
		if !Same(s, part) {
			t.Error(s)
		}
	}
	row := s.Rows[1][0]
	if spoil(Sheet{Rows: s.Rows[:1]}); s.Rows[1][0].Q.Cmp(row.Q) != 0 {
		t.Error(s)
	}
}

// 6.4

func TestEqualNumbersAreOneSheet(t *testing.T) {
	forms := []string{"0.5", "1/2", "2/4", "0.50", "100/200"}
	for _, a := range forms {
		for _, b := range forms {
			s, u := parsed(t, "x:number\n"+a), parsed(t, "x:number\n"+b+"\n")
			first, _ := Text(s)
			second, _ := Text(u)
			if !Same(s, u) || first != second || first != "x:number\n1/2\n" {
				t.Error(a, b)
			}
		}
	}
	for _, zero := range []string{"0", "-0.0", "0/7", "0.000"} {
		if !Same(parsed(t, "x:number\n0\n"), parsed(t, "x:number\n"+zero+"\n")) {
			t.Error(zero)
		}
	}
}

func TestWhatIsWrittenIsReadBack(t *testing.T) {
	gen := rand.New(rand.NewSource(7))
	for range 600 {
		s := randomSheet(gen)
		text, e := Text(s)
		if e != api.OK {
			t.Fatal(s, e)
		}
		back, f := Parse(text)
		if f != (api.Fault{}) || !Same(back, s) {
			t.Fatal(text, f)
		}
		if again, e := Text(back); e != api.OK || again != text {
			t.Fatal(again, e)
		}
		if back, f = Parse(strings.TrimSuffix(text, "\n")); f != (api.Fault{}) || !Same(back, s) {
			t.Fatal(text, f)
		}
	}
}

func randomSheet(gen *rand.Rand) Sheet {
	var s Sheet
	for i := range 1 + gen.Intn(api.MaxCols) {
		c := Col{Name: "c" + strconv.Itoa(i), Kind: Number}
		if gen.Intn(2) == 0 {
			c.Kind = Choice
			for k := range 1 + gen.Intn(api.MaxWords) {
				c.Words = append(c.Words, "w_"+strconv.Itoa(k*7))
			}
		}
		s.Cols = append(s.Cols, c)
	}
	for range gen.Intn(40) {
		var row []Cell
		for _, c := range s.Cols {
			row = append(row, randomCell(gen, c))
		}
		s.Rows = append(s.Rows, row)
	}
	return s
}

func randomCell(gen *rand.Rand, c Col) Cell {
	if gen.Intn(4) == 0 {
		return Cell{Lacks: true}
	}
	if c.Kind == Choice {
		return Cell{Word: gen.Intn(len(c.Words))}
	}
	q, _ := frac.Over(gen.Int63()>>gen.Intn(63)-int64(gen.Intn(1000)), 1+gen.Int63()>>gen.Intn(63))
	return Cell{Q: q}
}
