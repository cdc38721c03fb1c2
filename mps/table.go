package mps

// The heads' places in their table, which is also the order in which they may stand. noHead lies below them all, so that what is no head is out of order anywhere.
const (
	noHead = iota - 1
	nameHead
	senseHead
	rowsHead
	columnsHead
	rhsHead
	rangesHead
	boundsHead
	endHead
)

// counts are the numbers of words that an entry may have: from least to most of them, by steps.
type counts struct{ least, most, step int }

func (c counts) has(n int) bool {
	return c.least <= n && n <= c.most && (n-c.least)%c.step == 0
}

// heads: loose tells whether words may stand behind one in its line, always whether it is told where it has no entries. How long an entry of BOUNDS may be hangs on its kind; behind NAME and ENDATA none is taken.
var heads = [...]struct {
	word          string
	loose, always bool
	entry         counts
}{
	nameHead:    {"NAME", true, true, counts{}},
	senseHead:   {"OBJSENSE", false, false, counts{1, 1, 1}},
	rowsHead:    {"ROWS", false, true, counts{2, 2, 1}},
	columnsHead: {"COLUMNS", false, true, counts{3, 5, 2}},
	rhsHead:     {"RHS", false, false, counts{2, 5, 1}},
	rangesHead:  {"RANGES", false, false, counts{2, 5, 1}},
	boundsHead:  {"BOUNDS", false, false, counts{}},
	endHead:     {"ENDATA", false, true, counts{}},
}

// headOf gives the place of a head.
func headOf(word string) int {
	for place, head := range heads {
		if head.word == word {
			return place
		}
	}
	return noHead
}

// limits are the kinds of bounds; numbered tells whether a number stands behind the name.
var limits = [...]struct {
	kind     string
	numbered bool
	entry    counts
}{
	{"LO", true, counts{3, 4, 1}},
	{"UP", true, counts{3, 4, 1}},
	{"FX", true, counts{3, 4, 1}},
	{"FR", false, counts{2, 3, 1}},
	{"MI", false, counts{2, 3, 1}},
	{"PL", false, counts{2, 3, 1}},
	{"BV", false, counts{2, 3, 1}},
}

// limitOf gives the place of a kind of bounds; below 0, if it is none.
func limitOf(word string) int {
	for place, limit := range limits {
		if limit.kind == word {
			return place
		}
	}
	return -1
}

// The words of the format that stand in texts read and told alike.
const (
	marker   = "'MARKER'"
	wholes   = "'INTORG'"
	noWholes = "'INTEND'"
	// unnamed is what an objective is called that has no name.
	unnamed = "-"
)
