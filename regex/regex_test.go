package regex

import (
	"maps"
	"math/rand"
	"slices"
	"testing"

	"reedpen/api"
)

func none() api.Regex { return api.Regex{} }

func set(s uint16) api.Regex { return api.Regex{Kind: api.KindSet, Set: s} }

func cat(l ...api.Regex) api.Regex { return api.Regex{Kind: api.KindCat, Kids: l} }

func alt(l ...api.Regex) api.Regex { return api.Regex{Kind: api.KindAlt, Kids: l} }

func star(r api.Regex) api.Regex { return api.Regex{Kind: api.KindStar, Kids: []api.Regex{r}} }

func opt(r api.Regex) api.Regex { return api.Regex{Kind: api.KindOpt, Kids: []api.Regex{r}} }

// times is n Kids of one set.
func times(n int) []api.Regex {
	out := make([]api.Regex, n)
	for i := range out {
		out[i] = set(1)
	}
	return out
}

// wraps puts an expression into another of each kind that may have one Kid.
func wraps() map[string]func(api.Regex) api.Regex {
	return map[string]func(api.Regex) api.Regex{
		"cat":  func(r api.Regex) api.Regex { return cat(r) },
		"alt":  func(r api.Regex) api.Regex { return alt(r) },
		"star": star,
		"opt":  opt,
	}
}

// within is an expression that is n deeper.
func within(r api.Regex, n int, wrap func(api.Regex) api.Regex) api.Regex {
	for range n {
		r = wrap(r)
	}
	return r
}

// full has as many nodes as may be, and is as deep as may be, with last as its deepest node, behind all others.
func full(last api.Regex) api.Regex {
	return alt(append(times(api.MaxNodes-api.MaxDeep), within(last, api.MaxDeep-2, star))...)
}

// told is an expression and what the document says of it.
type told struct {
	r           api.Regex
	nodes, deep int
	empty       bool
	first       uint16
}

// rightOnes are unlike one another.
func rightOnes() map[string]told {
	return map[string]told{
		"nothing":             {none(), 1, 1, true, 0},
		"one category":        {set(1 << 3), 1, 1, false, 8},
		"the first category":  {set(1), 1, 1, false, 1},
		"the last category":   {set(1 << 15), 1, 1, false, 1 << 15},
		"all categories":      {set(0xFFFF), 1, 1, false, 0xFFFF},
		"the example":         {cat(set(2), star(set(4))), 4, 3, false, 2},
		"cat of one":          {cat(set(6)), 2, 2, false, 6},
		"cat of nothing":      {cat(none()), 2, 2, true, 0},
		"alt of one":          {alt(set(6)), 2, 2, false, 6},
		"alt of nothing":      {alt(none()), 2, 2, true, 0},
		"star":                {star(set(6)), 2, 2, true, 6},
		"star of nothing":     {star(none()), 2, 2, true, 0},
		"opt":                 {opt(set(6)), 2, 2, true, 6},
		"opt of nothing":      {opt(none()), 2, 2, true, 0},
		"star of opt":         {star(opt(set(9))), 3, 3, true, 9},
		"opt of star":         {opt(star(set(9))), 3, 3, true, 9},
		"star of cat":         {star(cat(set(1), set(2))), 4, 3, true, 1},
		"star of alt":         {star(alt(set(1), set(2))), 4, 3, true, 3},
		"two sets":            {cat(set(1), set(2)), 3, 2, false, 1},
		"turned sets":         {cat(set(2), set(1)), 3, 2, false, 2},
		"nothing ahead":       {cat(none(), set(2)), 3, 2, false, 2},
		"nothing behind":      {cat(set(2), none()), 3, 2, false, 2},
		"nothings ahead":      {cat(none(), none(), set(2), set(4)), 5, 2, false, 2},
		"star ahead":          {cat(star(set(1)), set(2), set(4)), 5, 3, false, 3},
		"opt ahead":           {cat(opt(set(1)), set(2), set(4)), 5, 3, false, 3},
		"two ahead":           {cat(opt(set(1)), star(set(2)), set(4), set(8)), 7, 3, false, 7},
		"empty alt ahead":     {cat(alt(set(1), none()), set(2)), 5, 3, false, 3},
		"full alt ahead":      {cat(alt(set(1), set(4)), set(2)), 5, 3, false, 5},
		"empty cat ahead":     {cat(cat(opt(set(1)), opt(set(4))), set(2)), 7, 4, false, 7},
		"full cat ahead":      {cat(cat(opt(set(1)), set(4)), set(2)), 6, 4, false, 5},
		"all empty":           {cat(opt(set(1)), star(set(2)), none(), alt(set(4), none())), 9, 3, true, 7},
		"empty but the first": {cat(set(1), opt(set(2)), none()), 5, 3, false, 1},
		"empty but the last":  {cat(opt(set(2)), none(), set(1)), 5, 3, false, 3},
		"alt, first empty":    {alt(none(), set(2), set(4)), 4, 2, true, 6},
		"alt, last empty":     {alt(set(2), set(4), none()), 4, 2, true, 6},
		"alt, none empty":     {alt(set(2), set(4), set(1)), 4, 2, false, 7},
		"alt of cats":         {alt(cat(set(1), set(2)), cat(opt(set(4)), set(8))), 8, 4, false, 13},
		"alt of alts":         {alt(alt(set(1), set(2)), alt(opt(set(4)))), 7, 4, true, 7},
		"opt of cat":          {opt(cat(set(2), set(1))), 4, 3, true, 2},
		"every kind":          {alt(cat(star(set(1)), opt(set(2)), set(4)), none(), star(cat(set(8), set(16)))), 12, 4, true, 15},
		"most nodes":          {alt(times(99)...), 100, 2, false, 1},
		"most nodes in a row": {cat(times(99)...), 100, 2, false, 1},
		"most in two":         {cat(alt(times(47)...), cat(times(50)...)), 100, 3, false, 1},
		"most nodes, deepest": {full(set(2)), 100, 12, true, 3},
		"deepest stars":       {within(set(1), 11, star), 12, 12, true, 1},
		"deepest opts":        {within(set(1), 11, opt), 12, 12, true, 1},
		"deepest cats":        {within(set(1), 11, func(r api.Regex) api.Regex { return cat(r) }), 12, 12, false, 1},
		"deepest alts":        {within(set(1), 11, func(r api.Regex) api.Regex { return alt(r) }), 12, 12, false, 1},
		"deepest first":       {cat(within(set(4), 10, opt), set(1)), 13, 12, false, 5},
		"deepest last":        {cat(set(1), within(set(4), 10, opt)), 13, 12, false, 1},
	}
}

// wrongKinds are nodes that may not be, unlike one another.
func wrongKinds() map[string]api.Regex {
	one, two := []api.Regex{set(1)}, []api.Regex{set(1), set(2)}
	return map[string]api.Regex{
		"nothing with a set":  {Kind: api.KindNil, Set: 1},
		"nothing with all":    {Kind: api.KindNil, Set: 0xFFFF},
		"nothing with a kid":  {Kind: api.KindNil, Kids: one},
		"nothing with itself": {Kind: api.KindNil, Kids: []api.Regex{none()}},
		"set of none":         {Kind: api.KindSet},
		"set with a kid":      {Kind: api.KindSet, Set: 1, Kids: one},
		"set of kids":         {Kind: api.KindSet, Kids: two},
		"cat of none":         {Kind: api.KindCat},
		"cat with a set":      {Kind: api.KindCat, Set: 1, Kids: two},
		"cat of a set alone":  {Kind: api.KindCat, Set: 1},
		"alt of none":         {Kind: api.KindAlt},
		"alt with a set":      {Kind: api.KindAlt, Set: 1 << 15, Kids: two},
		"star of none":        {Kind: api.KindStar},
		"star of two":         {Kind: api.KindStar, Kids: two},
		"star with a set":     {Kind: api.KindStar, Set: 2, Kids: one},
		"opt of none":         {Kind: api.KindOpt},
		"opt of two":          {Kind: api.KindOpt, Kids: two},
		"opt of three":        {Kind: api.KindOpt, Kids: []api.Regex{none(), none(), none()}},
		"opt with a set":      {Kind: api.KindOpt, Set: 0xFFFF, Kids: one},
		"no kind":             {Kind: 6},
		"no kind, a set":      {Kind: 7, Set: 1},
		"no kind, a kid":      {Kind: 8, Kids: one},
		"the greatest kind":   {Kind: 255, Set: 1, Kids: two},
	}
}

// doubled has last 2^n times, in little room: each list of Kids holds the one below it twice.
func doubled(n int, last api.Regex) api.Regex {
	for range n {
		last = alt(last, last)
	}
	return last
}

// endless holds itself, by a list of Kids of a kind.
func endless(kind byte, others ...api.Regex) api.Regex {
	kids := append([]api.Regex{{Kind: kind}}, others...)
	kids[0].Kids = kids
	return kids[0]
}

// wrongOnes are wrong in ways that wrongKinds are not; all are unlike one another.
func wrongOnes() map[string]api.Regex {
	out := map[string]api.Regex{
		"a node too many":      alt(times(100)...),
		"one too many, in two": cat(alt(times(48)...), cat(times(50)...)),
		"too many, deep":       full(opt(set(1))),
		"too many, empty":      cat(make([]api.Regex, 100)...),
		"too deep first":       cat(within(set(4), 11, opt), set(1)),
		"too deep last":        cat(set(1), within(set(4), 11, opt)),
		"a million nodes":      cat(times(1000000)...),
		"a million below one":  star(alt(times(1000000)...)),
		"very deep":            within(set(1), 1<<16-1, star),
		"very deep last":       within(set(1), 1<<15, func(r api.Regex) api.Regex { return cat(set(2), r) }),
		"2^60 nodes":           doubled(60, set(1)),
		"itself, by star":      endless(api.KindStar),
		"itself, by cat":       endless(api.KindCat, set(1)),
		"itself, twice":        endless(api.KindAlt, set(1), none(), set(4)),
	}
	for name, wrap := range wraps() {
		out["too deep, "+name] = within(set(1), 12, wrap)
	}
	for name, r := range wrongKinds() {
		out[name] = r
		out["deepest last: "+name] = full(r)
		out["first: "+name] = cat(r, set(1))
		out["between: "+name] = alt(set(1), opt(r), set(1))
	}
	return out
}

// copied is a copy in memory of its own, to any depth.
func copied(r api.Regex) api.Regex {
	out := api.Regex{Kind: r.Kind, Set: r.Set}
	for _, kid := range r.Kids {
		out.Kids = append(out.Kids, copied(kid))
	}
	return out
}

// small are all right expressions of n nodes whose sets are of two categories.
func small(n int) []api.Regex {
	if n == 1 {
		return []api.Regex{none(), set(1), set(1 << 15), set(1 | 1<<15)}
	}
	var out []api.Regex
	for _, kids := range lists(n - 1) {
		out = append(out, cat(kids...), alt(kids...))
		if len(kids) == 1 {
			out = append(out, star(kids[0]), opt(kids[0]))
		}
	}
	return out
}

// lists are all lists of such Kids with n nodes in all.
func lists(n int) [][]api.Regex {
	if n == 0 {
		return [][]api.Regex{nil}
	}
	var out [][]api.Regex
	for first := 1; first <= n; first++ {
		for _, kid := range small(first) {
			for _, rest := range lists(n - first) {
				out = append(out, append([]api.Regex{kid}, rest...))
			}
		}
	}
	return out
}

// eachSmall is all right expressions of at most 5 nodes.
func eachSmall() []api.Regex {
	var out []api.Regex
	for n := 1; n <= 5; n++ {
		out = append(out, small(n)...)
	}
	return out
}

// some is a right expression of at most most nodes, at most deep deep.
func some(rnd *rand.Rand, most, deep int) api.Regex {
	if most < 2 || deep < 2 {
		return []api.Regex{none(), set(1 << rnd.Intn(16)), set(uint16(1 + rnd.Intn(0xFFFF)))}[rnd.Intn(3)]
	}
	kind := byte(api.KindCat + rnd.Intn(4))
	kids, left := 1, most-1
	if kind == api.KindCat || kind == api.KindAlt {
		kids = 1 + rnd.Intn(min(left, 4))
	}
	r := api.Regex{Kind: kind}
	for i := range kids {
		r.Kids = append(r.Kids, some(rnd, left/(kids-i), deep-1))
		left -= counted(r.Kids[i])
	}
	return r
}

// counted is how many nodes there are.
func counted(r api.Regex) int {
	n := 1
	for _, kid := range r.Kids {
		n += counted(kid)
	}
	return n
}

// depth is how deep it is.
func depth(r api.Regex) int {
	n := 0
	for _, kid := range r.Kids {
		n = max(n, depth(kid))
	}
	return n + 1
}

// words are the words of at most most categories that an expression has, by the chapter's words; a category is a byte.
func words(r api.Regex, most int) map[string]int {
	out := map[string]int{}
	switch r.Kind {
	case api.KindNil:
		out[""] = 1
	case api.KindSet:
		for c := range 16 {
			if r.Set>>c&1 == 1 && most > 0 {
				out[string([]byte{byte(c)})] = 1
			}
		}
	case api.KindCat:
		out[""] = 1
		for _, kid := range r.Kids {
			out = behind(out, words(kid, most), most)
		}
	case api.KindAlt:
		for _, kid := range r.Kids {
			maps.Copy(out, words(kid, most))
		}
	case api.KindStar:
		kids := words(r.Kids[0], most)
		next := map[string]int{"": 1}
		for len(next) > len(out) {
			out = next
			next = maps.Clone(out)
			maps.Copy(next, behind(out, kids, most))
		}
	case api.KindOpt:
		out = words(r.Kids[0], most)
		out[""] = 1
	}
	return out
}

// behind is each word of a with each of b behind it.
func behind(a, b map[string]int, most int) map[string]int {
	out := map[string]int{}
	for x := range a {
		for y := range b {
			if len(x)+len(y) <= most {
				out[x+y] = 1
			}
		}
	}
	return out
}

// firsts is what words begin with.
func firsts(l map[string]int) uint16 {
	out := uint16(0)
	for word := range l {
		if word != "" {
			out |= 1 << word[0]
		}
	}
	return out
}

// fromBehind is each word from behind.
func fromBehind(l map[string]int) map[string]int {
	out := map[string]int{}
	for word := range l {
		b := []byte(word)
		slices.Reverse(b)
		out[string(b)] = 1
	}
	return out
}

// P4.1

func TestRightOnes(t *testing.T) {
	for name, x := range rightOnes() {
		if !Right(x.r) {
			t.Errorf("%s: not right", name)
		}
		if Nodes(x.r) != x.nodes || Deep(x.r) != x.deep {
			t.Errorf("%s: %d nodes, %d deep", name, Nodes(x.r), Deep(x.r))
		}
	}
}

// rightByWords says what the chapter's words say of a node's kind, Set and number of Kids.
func rightByWords(kind byte, s uint16, kids int) bool {
	switch kind {
	case 0:
		return s == 0 && kids == 0
	case 1:
		return s != 0 && kids == 0
	case 2, 3:
		return s == 0 && kids > 0
	case 4, 5:
		return s == 0 && kids == 1
	}
	return false
}

func TestRightKinds(t *testing.T) {
	for kind := range 256 {
		for _, s := range []uint16{0, 1, 6, 1 << 15, 0xFFFF} {
			for kids := range 4 {
				r := api.Regex{Kind: byte(kind), Set: s, Kids: times(kids)}
				want := rightByWords(byte(kind), s, kids)
				for name, r := range map[string]api.Regex{"alone": r, "within": opt(cat(set(1), r)), "deepest": within(r, 11-min(kids, 1), star)} {
					if got := Right(r); got != want {
						t.Errorf("kind %d, Set %d, %d Kids, %s: %v", kind, s, kids, name, got)
					}
				}
			}
		}
	}
}

func TestNodesAtTheEdge(t *testing.T) {
	for n := 1; n < 130; n++ {
		for name, r := range map[string]api.Regex{"alt": alt(times(n)...), "cat": cat(times(n)...), "nothings": cat(make([]api.Regex, n)...)} {
			want := n + 1
			if want > 100 {
				want = 0
			}
			if Right(r) != (want > 0) || Nodes(r) != want {
				t.Errorf("%s of %d: %v, %d", name, n, Right(r), Nodes(r))
			}
		}
	}
}

func TestDeepAtTheEdge(t *testing.T) {
	for name, wrap := range wraps() {
		for n := range 20 {
			r := within(set(1), n, wrap)
			want := n + 1
			if want > 12 {
				want = 0
			}
			if Right(r) != (want > 0) || Deep(r) != want || Nodes(r) != want {
				t.Errorf("%s, %d times: %v, %d deep, %d nodes", name, n, Right(r), Deep(r), Nodes(r))
			}
		}
	}
}

func TestMeasured(t *testing.T) {
	rnd := rand.New(rand.NewSource(41))
	for range 3000 {
		r := some(rnd, 1+rnd.Intn(130), 1+rnd.Intn(15))
		nodes, deep := counted(r), depth(r)
		right := nodes <= 100 && deep <= 12
		if !right {
			nodes, deep = 0, 0
		}
		if Right(r) != right || Nodes(r) != nodes || Deep(r) != deep {
			t.Fatalf("%v: %v, %d nodes, %d deep", r, Right(r), Nodes(r), Deep(r))
		}
	}
}

func TestMeasuredSmall(t *testing.T) {
	for _, r := range eachSmall() {
		if !Right(r) || Nodes(r) != counted(r) || Deep(r) != depth(r) {
			t.Fatalf("%v: %v, %d nodes, %d deep", r, Right(r), Nodes(r), Deep(r))
		}
	}
}

func TestWrongOnes(t *testing.T) {
	for name, r := range wrongOnes() {
		if Right(r) {
			t.Errorf("%s: right", name)
		}
		if Nodes(r) != 0 || Deep(r) != 0 || Empty(r) || First(r) != 0 {
			t.Errorf("%s: %d nodes, %d deep, %v, %d", name, Nodes(r), Deep(r), Empty(r), First(r))
		}
		if x := Turned(r); x.Kind != 0 || x.Set != 0 || len(x.Kids) != 0 {
			t.Errorf("%s: turned", name)
		}
	}
}

// allOnes are all those above, right or not; each time in memory of their own.
func allOnes() map[string]api.Regex {
	out := wrongOnes()
	for name, x := range rightOnes() {
		out["right: "+name] = x.r
	}
	return out
}

func TestSameOfAll(t *testing.T) {
	again := allOnes()
	for name, a := range allOnes() {
		if !Same(a, a) {
			t.Errorf("%s: isn't like itself", name)
		}
		for other, b := range again {
			if Same(a, b) != (name == other) {
				t.Errorf("%s, %s: %v", name, other, Same(a, b))
			}
		}
	}
}

func TestSameSmall(t *testing.T) {
	var l []api.Regex
	for n := 1; n <= 4; n++ {
		l = append(l, small(n)...)
	}
	for i, a := range l {
		for j, b := range l {
			if Same(a, b) != (i == j) {
				t.Fatalf("%v, %v: %v", a, b, Same(a, b))
			}
		}
	}
}

// changes are expressions that are unlike one in just one node, or in the number or the order of its Kids.
func changes(r api.Regex) []api.Regex {
	var out []api.Regex
	for _, kind := range []byte{r.Kind + 1, r.Kind - 1, r.Kind + 128} {
		out = append(out, api.Regex{Kind: kind, Set: r.Set, Kids: r.Kids})
	}
	for c := range 16 {
		out = append(out, api.Regex{Kind: r.Kind, Set: r.Set ^ 1<<c, Kids: r.Kids})
	}
	for _, more := range []api.Regex{none(), set(1)} {
		out = append(out, withKids(r, slices.Insert(slices.Clone(r.Kids), 0, more)), withKids(r, slices.Insert(slices.Clone(r.Kids), len(r.Kids), more)))
	}
	for i, kid := range r.Kids {
		out = append(out, withKids(r, slices.Delete(slices.Clone(r.Kids), i, i+1)))
		if i > 0 && kid.Kind != r.Kids[i-1].Kind {
			swapped := slices.Clone(r.Kids)
			swapped[i-1], swapped[i] = swapped[i], swapped[i-1]
			out = append(out, withKids(r, swapped))
		}
		for _, change := range changes(kid) {
			kids := slices.Clone(r.Kids)
			kids[i] = change
			out = append(out, withKids(r, kids))
		}
	}
	return out
}

func withKids(r api.Regex, kids []api.Regex) api.Regex {
	return api.Regex{Kind: r.Kind, Set: r.Set, Kids: kids}
}

func TestSameTellsOneNode(t *testing.T) {
	for name, r := range map[string]api.Regex{
		"nothing":      none(),
		"every kind":   rightOnes()["every kind"].r,
		"the greatest": full(set(2)),
		"wrong":        {Kind: 77, Set: 5, Kids: []api.Regex{star(none()), {Kind: 1, Kids: []api.Regex{set(1), none()}}, {Kind: 200}}},
		"too deep":     within(cat(set(1), none()), 20, star),
	} {
		if !Same(r, copied(r)) {
			t.Errorf("%s: isn't like its copy", name)
		}
		for _, x := range changes(r) {
			if Same(r, x) || Same(x, r) {
				t.Fatalf("%s: %v is like %v", name, x, r)
			}
		}
	}
}

// TestSameOfOrder: Kids in another order are others, whatever the kind.
func TestSameOfOrder(t *testing.T) {
	for kind := range 256 {
		a := api.Regex{Kind: byte(kind), Kids: []api.Regex{set(1), set(2), set(4)}}
		b := api.Regex{Kind: byte(kind), Kids: []api.Regex{set(1), set(4), set(2)}}
		if Same(a, b) || Same(b, a) || !Same(a, copied(a)) {
			t.Errorf("kind %d", kind)
		}
	}
}

// TestSameOfShared: one list of Kids may stand in both, and often in one, and be cut from a greater one.
func TestSameOfShared(t *testing.T) {
	l := []api.Regex{set(1), set(2), set(1), set(2), set(1)}
	if !Same(cat(l[:2]...), cat(l[2:4]...)) || Same(cat(l[:2]...), cat(l[1:3]...)) || Same(cat(l[:2]...), cat(l[:3]...)) {
		t.Error("cut from one list")
	}
	if !Same(alt(cat(l[:2]...), cat(l[:2]...)), alt(cat(l[:2]...), cat(l[2:4]...))) {
		t.Error("one list twice is like its copies")
	}
	if Same(alt(cat(l[:2]...), cat(l[:2]...)), alt(cat(l[:2]...), cat(l[:3]...))) || Same(alt(cat(l[:2]...), cat(l[:2]...)), alt(cat(l[:2]...), cat(l[1:3]...))) {
		t.Error("one list twice, once held against another")
	}
	short, long := []api.Regex{set(1), set(2)}, []api.Regex{set(1), set(4)}
	if Same(alt(cat(short[:1]...), cat(short...)), alt(cat(long[:1]...), cat(long...))) {
		t.Error("lists that begin alike, then longer ones from the same places")
	}
	if !Same(doubled(60, set(1)), doubled(60, set(1))) || Same(doubled(60, set(1)), doubled(60, set(2))) || Same(doubled(60, set(1)), doubled(61, set(1))) {
		t.Error("doubled")
	}
}

// TestSameOfEndless: those that hold themselves have no end; alike are those in which nothing unlike is ever come to.
func TestSameOfEndless(t *testing.T) {
	for i, x := range []struct {
		a, b api.Regex
		want bool
	}{
		{endless(api.KindStar), endless(api.KindStar), true},
		{endless(api.KindStar), star(star(endless(api.KindStar))), true},
		{endless(api.KindStar), endless(api.KindOpt), false},
		{endless(api.KindStar), within(set(1), 100, star), false},
		{endless(api.KindCat, set(1)), endless(api.KindCat, set(1)), true},
		{endless(api.KindCat, set(1)), endless(api.KindCat, set(2)), false},
		{endless(api.KindCat, set(1)), endless(api.KindCat, set(1), set(1)), false},
		{endless(api.KindCat, set(1)), cat(cat(endless(api.KindCat, set(1)), set(1)), set(1)), true},
		{endless(api.KindCat, set(1)), cat(cat(endless(api.KindCat, set(1)), set(1)), set(2)), false},
	} {
		if Same(x.a, x.b) != x.want || Same(x.b, x.a) != x.want {
			t.Error(i)
		}
	}
}

// Nil and empty Kids are one.
func TestEmptyKids(t *testing.T) {
	for kind := range 256 {
		for _, s := range []uint16{0, 9} {
			a := api.Regex{Kind: byte(kind), Set: s}
			b := api.Regex{Kind: byte(kind), Set: s, Kids: make([]api.Regex, 0, 4)}
			if Right(a) != Right(b) || Nodes(a) != Nodes(b) || Deep(a) != Deep(b) || Empty(a) != Empty(b) || First(a) != First(b) || !Same(Turned(a), Turned(b)) {
				t.Errorf("kind %d, Set %d: told otherwise of empty Kids", kind, s)
			}
			if !Same(a, b) || !Same(b, a) || !Same(star(a), star(b)) {
				t.Errorf("kind %d, Set %d: isn't the same with empty Kids", kind, s)
			}
		}
	}
}

// P4.2

func TestEmptyAndFirstNamed(t *testing.T) {
	for name, x := range rightOnes() {
		if Empty(x.r) != x.empty || First(x.r) != x.first {
			t.Errorf("%s: %v, %d", name, Empty(x.r), First(x.r))
		}
	}
}

func TestFirstOfEachCategory(t *testing.T) {
	for c := range 16 {
		s := uint16(1) << c
		other := ^s
		for i, x := range []struct {
			r    api.Regex
			want uint16
		}{
			{set(s), s}, {set(other), other}, {star(set(s)), s}, {opt(set(other)), other}, {alt(set(s), set(other)), 0xFFFF},
			{cat(set(s), set(other)), s}, {cat(set(other), set(s)), other}, {cat(opt(set(s)), set(other)), 0xFFFF}, {cat(none(), star(none()), set(s), set(other)), s},
		} {
			if First(x.r) != x.want {
				t.Errorf("category %d, %d: %d", c, i, First(x.r))
			}
		}
	}
}

func TestEmptyAndFirstByWords(t *testing.T) {
	for _, r := range eachSmall() {
		l := words(r, 5) // a word that begins with a category is at most as long as there are nodes, if it is the shortest one
		if Empty(r) != (l[""] == 1) || First(r) != firsts(l) {
			t.Fatalf("%v: %v, %d", r, Empty(r), First(r))
		}
	}
}

// P4.3

func TestTurnedNamed(t *testing.T) {
	for i, x := range []struct{ r, want api.Regex }{
		{none(), none()}, {set(7), set(7)}, {star(set(1)), star(set(1))}, {opt(none()), opt(none())},
		{cat(set(1)), cat(set(1))},
		{cat(set(1), set(2)), cat(set(2), set(1))},
		{cat(set(1), set(2), set(4)), cat(set(4), set(2), set(1))},
		{alt(set(1), set(2), set(4)), alt(set(1), set(2), set(4))},
		{cat(set(2), star(set(4))), cat(star(set(4)), set(2))},
		{cat(set(1), alt(set(2), set(4))), cat(alt(set(2), set(4)), set(1))},
		{cat(cat(set(1), set(2)), cat(set(4), set(8))), cat(cat(set(8), set(4)), cat(set(2), set(1)))},
		{alt(cat(set(1), set(2)), set(4), cat(set(8), none())), alt(cat(set(2), set(1)), set(4), cat(none(), set(8)))},
		{star(opt(alt(cat(set(1), set(2))))), star(opt(alt(cat(set(2), set(1)))))},
	} {
		if got := Turned(x.r); !Same(got, x.want) {
			t.Errorf("%d: %v", i, got)
		}
	}
}

// isTurned holds two against each other, node by node.
func isTurned(a, b api.Regex) bool {
	if a.Kind != b.Kind || a.Set != b.Set || len(a.Kids) != len(b.Kids) {
		return false
	}
	for i, kid := range a.Kids {
		j := i
		if a.Kind == api.KindCat {
			j = len(a.Kids) - 1 - i
		}
		if !isTurned(kid, b.Kids[j]) {
			return false
		}
	}
	return true
}

func TestTurnedNodes(t *testing.T) {
	rnd := rand.New(rand.NewSource(43))
	for name, x := range rightOnes() {
		if !isTurned(x.r, Turned(x.r)) {
			t.Errorf("%s: %v", name, Turned(x.r))
		}
	}
	for range 2000 {
		r := some(rnd, 1+rnd.Intn(100), 12)
		if !isTurned(r, Turned(r)) {
			t.Fatalf("%v: %v", r, Turned(r))
		}
	}
}

// P4.4

func TestTurnedWords(t *testing.T) {
	for _, r := range eachSmall() {
		turned := Turned(r)
		want := fromBehind(words(r, 5))
		if !maps.Equal(words(turned, 5), want) || First(turned) != firsts(want) {
			t.Fatalf("%v: %v has other words", r, turned)
		}
	}
}

func TestTurnedKeeps(t *testing.T) {
	rnd := rand.New(rand.NewSource(44))
	l := eachSmall()
	for range 2000 {
		l = append(l, some(rnd, 1+rnd.Intn(100), 12))
	}
	for _, x := range rightOnes() {
		l = append(l, x.r)
	}
	for _, r := range l {
		turned := Turned(r)
		if !Right(turned) || Nodes(turned) != Nodes(r) || Deep(turned) != Deep(r) || Empty(turned) != Empty(r) {
			t.Fatalf("%v: %v isn't like it", r, turned)
		}
		if !Same(Turned(turned), r) {
			t.Fatalf("%v: turned twice: %v", r, Turned(turned))
		}
	}
}

// What is handed in, and what is answered.

// roomy is a copy whose lists have spare room, which is filled with what must stay; all is gathered, list by list.
func roomy(r api.Regex, all *[][]api.Regex) api.Regex {
	out := api.Regex{Kind: r.Kind, Set: r.Set}
	room := make([]api.Regex, len(r.Kids)+3)
	for i := range room {
		room[i] = api.Regex{Kind: 99, Set: 99}
	}
	for i, kid := range r.Kids {
		room[i] = roomy(kid, all)
	}
	*all = append(*all, room)
	out.Kids = room[:len(r.Kids)]
	return out
}

// asks asks every call.
func asks(r api.Regex) {
	Right(r)
	Nodes(r)
	Deep(r)
	Empty(r)
	First(r)
	Same(r, r)
	Same(r, star(r))
	Turned(r)
}

// alikeNode says whether a node is what it was, its list of Kids in the same place.
func alikeNode(a, b api.Regex) bool {
	place := len(a.Kids) == 0 || len(b.Kids) > 0 && &a.Kids[0] == &b.Kids[0]
	return a.Kind == b.Kind && a.Set == b.Set && len(a.Kids) == len(b.Kids) && cap(a.Kids) == cap(b.Kids) && place
}

func TestNothingChanged(t *testing.T) {
	handed := map[string]api.Regex{"wrong": full(api.Regex{Kind: 9}), "wrong first": cat(none(), set(0), set(1)), "too deep": within(cat(set(1), set(2)), 12, star), "too many": cat(times(100)...)}
	for name, x := range rightOnes() {
		handed[name] = x.r
	}
	for name, r := range handed {
		var all, before [][]api.Regex
		r = roomy(r, &all)
		for _, l := range all {
			before = append(before, slices.Clone(l))
		}
		asks(r)
		for i, l := range all {
			if !slices.EqualFunc(l, before[i], alikeNode) {
				t.Errorf("%s: changed", name)
			}
		}
	}
}

// places counts how often each place of an expression's lists is held, spare room too.
func places(r api.Regex, held map[*api.Regex]int) {
	room := r.Kids[:cap(r.Kids)]
	for i := range room {
		held[&room[i]]++
	}
	for _, kid := range r.Kids {
		places(kid, held)
	}
}

func TestTurnedIsNewMemory(t *testing.T) {
	handed := map[string]api.Regex{"one list often": doubled(4, cat(set(1), set(2), none()))}
	for name, x := range rightOnes() {
		handed[name] = x.r
	}
	for name, r := range handed {
		turned := Turned(r)
		if len(turned.Kids) != len(r.Kids) {
			t.Fatalf("%s: %v", name, turned)
		}
		held, answered := map[*api.Regex]int{}, map[*api.Regex]int{}
		places(r, held)
		places(turned, answered)
		for place, n := range answered {
			if n > 1 {
				t.Errorf("%s: two lists of the answer share a place", name)
			}
			if held[place] > 0 {
				t.Errorf("%s: the answer shares a place with what was handed in", name)
			}
		}
		for place := range answered {
			*place = api.Regex{Kind: 77, Set: 77}
		}
		if again := Turned(r); !isTurned(r, again) {
			t.Errorf("%s: the answer is kept", name)
		}
	}
}
