package expr

import (
	"math"
	"slices"
	"strconv"
	"strings"
	"testing"

	"pastern/api"
)

func num(n int64) api.Value { return api.Value{Kind: api.Int, N: n} }

func text(s string) api.Value { return api.Value{Kind: api.Str, S: s} }

func truth(n int64) api.Value { return api.Value{Kind: api.Bool, N: n} }

func lit(v api.Value) api.Expr { return api.Expr{Op: api.ELit, Val: v} }

func field(alias, name string) api.Expr {
	return api.Expr{Op: api.EField, Alias: alias, Field: name}
}

func node(op int, kids ...api.Expr) api.Expr { return api.Expr{Op: op, Kids: kids} }

// chain: so many nodes, each the kid of the one above it.
func chain(n int) api.Expr {
	x := lit(truth(1))
	for range n - 1 {
		x = node(api.ENot, x)
	}
	return x
}

// full: a tree of two kids each, so many leaves, no deeper than it must be.
func full(leaves int) api.Expr {
	if leaves == 1 {
		return field("a", "price")
	}
	return node(api.EAdd, full(leaves/2), full(leaves-leaves/2))
}

// mixed: a condition of many kinds of nodes, uneven.
func mixed() api.Expr {
	return node(api.EAnd,
		node(api.ENot, node(api.EEq, field("a", "item"), lit(text("hay")))),
		node(api.ELe, node(api.EMul, field("b", "price"), lit(num(-3))), lit(num(9))))
}

// places: the way to each node of x, as indexes of kids; a node ahead of its
// kids. It asks the tree itself, not the walk that is tested.
func places(x api.Expr) [][]int {
	out := [][]int{nil}
	for i, kid := range x.Kids {
		for _, way := range places(kid) {
			out = append(out, append([]int{i}, way...))
		}
	}
	return out
}

func at(x api.Expr, way []int) api.Expr {
	for _, i := range way {
		x = x.Kids[i]
	}
	return x
}

// with: x, in new memory, with another node at that place.
func with(x api.Expr, way []int, other api.Expr) api.Expr {
	if len(way) == 0 {
		return other
	}
	x.Kids = slices.Clone(x.Kids)
	x.Kids[way[0]] = with(x.Kids[way[0]], way[1:], other)
	return x
}

func TestKids(t *testing.T) {
	two := []int{api.EAdd, api.ESub, api.EMul, api.EEq, api.ENe, api.ELt, api.ELe, api.EAnd, api.EOr}
	ops := []int{math.MinInt, math.MaxInt, 1<<32 + api.EAdd, 1<<32 + api.ENot}
	for op := -300; op <= 300; op++ {
		ops = append(ops, op)
	}
	for _, op := range ops {
		want := 0
		if slices.Contains(two, op) {
			want = 2
		} else if op == api.ENot {
			want = 1
		}
		if got := Kids(op); got != want {
			t.Errorf("P6.1: Kids(%d) = %d, not %d", op, got, want)
		}
	}
}

func TestIsByOpAndNumberOfKids(t *testing.T) {
	for op := -20; op <= 40; op++ {
		for n := range 5 {
			x := node(op, slices.Repeat([]api.Expr{lit(num(1))}, n)...)
			switch op {
			case api.ELit:
				x.Val = num(1)
			case api.EField:
				x.Alias, x.Field = "a", "price"
			}
			want := api.ELit <= op && op <= api.ENot && n == Kids(op)
			if Is(x) != want {
				t.Errorf("P6.1: Is of Op %d with %d kids: not %v", op, n, want)
			}
		}
	}
	for _, op := range []int{math.MinInt, math.MaxInt, 1<<32 + api.ELit} {
		if Is(api.Expr{Op: op, Val: num(1)}) {
			t.Errorf("P6.1: Op %d is one", op)
		}
	}
	if Is(api.Expr{}) {
		t.Error("P6.1: no condition is one")
	}
	if !Is(api.Expr{Op: api.ELit, Val: num(1), Kids: []api.Expr{}}) {
		t.Error("P6.1: an empty list of kids isn't the same as none")
	}
}

func TestIsByValue(t *testing.T) {
	for _, c := range []struct {
		v    api.Value
		want bool
	}{
		{num(0), true},
		{num(math.MinInt64), true},
		{text(""), true},
		{text("sixteen bytes so"), true},
		{truth(0), true},
		{truth(1), true},
		{truth(2), false},
		{text("seventeen bytes s"), false},
		{text("\n"), false},
		{api.Value{}, false},
		{api.Value{Kind: api.Bool + 1}, false},
		{api.Value{Kind: api.Int, S: "x"}, false},
		{api.Value{Kind: api.Str, N: 1}, false},
	} {
		if Is(lit(c.v)) != c.want || Is(node(api.ENot, lit(c.v))) != c.want {
			t.Errorf("P6.1: Is of the literal %+v: not %v", c.v, c.want)
		}
	}
}

func TestIsByNames(t *testing.T) {
	for _, c := range []struct {
		s    string
		want bool
	}{
		{"a", true}, {"z", true}, {"eightbyt", true},
		{"", false}, {"ninebytes", false}, {"A", false}, {"a1", false}, {"a b", false}, {"é", false}, {"\x00", false},
	} {
		if Is(field(c.s, "price")) != c.want {
			t.Errorf("P6.1: Is of a field with the alias %q: not %v", c.s, c.want)
		}
		if Is(field("a", c.s)) != c.want {
			t.Errorf("P6.1: Is of the field %q: not %v", c.s, c.want)
		}
	}
}

func TestIsAsksForNoOtherParts(t *testing.T) {
	sound := map[string]api.Expr{
		"literal": lit(num(1)),
		"field":   field("a", "price"),
		"not":     node(api.ENot, lit(num(1))),
	}
	for op := api.EAdd; op <= api.EOr; op++ {
		sound["node of Op "+strconv.Itoa(op)] = node(op, lit(num(1)), lit(num(2)))
	}
	parts := map[string]func(x *api.Expr){
		"an alias":            func(x *api.Expr) { x.Alias = "a" },
		"a field":             func(x *api.Expr) { x.Field = "price" },
		"a kind":              func(x *api.Expr) { x.Val.Kind = api.Int },
		"a number":            func(x *api.Expr) { x.Val.N = 1 },
		"a negative number":   func(x *api.Expr) { x.Val.N = -1 },
		"a text":              func(x *api.Expr) { x.Val.S = "x" },
		"a whole value":       func(x *api.Expr) { x.Val = text("x") },
		"a kid":               func(x *api.Expr) { x.Kids = append(x.Kids, lit(num(1))) },
		"a kid that is empty": func(x *api.Expr) { x.Kids = append(x.Kids, api.Expr{}) },
	}
	fits := map[string][]string{
		"literal": {"a kind", "a number", "a negative number", "a whole value"},
		"field":   {"an alias", "a field"},
	}
	for kind, whole := range sound {
		if !Is(whole) {
			t.Errorf("P6.1: Is of a %s: not", kind)
		}
		for part, put := range parts {
			x := copied(whole)
			put(&x)
			if want := slices.Contains(fits[kind], part); Is(x) != want {
				t.Errorf("P6.1: Is of a %s with %s: not %v", kind, part, want)
			}
		}
	}
}

func TestIsLooksAtEachNode(t *testing.T) {
	faults := []api.Expr{
		{},
		{Alias: "a"},
		{Kids: []api.Expr{lit(num(1))}},
		{Op: api.ENot + 1},
		{Op: -1},
		lit(truth(2)),
		field("", "price"),
		field("a", "Price"),
		node(api.ENot),
		node(api.EAdd, lit(num(1))),
		node(api.ELit),
		{Op: api.EField, Alias: "a", Field: "price", Val: num(1)},
		{Op: api.ENot, Alias: "a", Kids: []api.Expr{lit(num(1))}},
	}
	for _, whole := range []api.Expr{mixed(), full(12), full(8), chain(4)} {
		if !Is(whole) {
			t.Fatalf("P6.1: not: %+v", whole)
		}
		for _, way := range places(whole) {
			for i, fault := range faults {
				if Is(with(whole, way, fault)) {
					t.Errorf("P6.1: fault %d at %v isn't seen", i, way)
				}
			}
		}
	}
}

func TestIsByDepth(t *testing.T) {
	for n := 1; n <= 3*deepest; n++ {
		want := n <= api.MaxDepth
		left, right := lit(num(1)), lit(num(1))
		for range n - 1 {
			left = node(api.EAdd, left, lit(num(2)))
			right = node(api.EAdd, lit(num(2)), right)
		}
		for name, x := range map[string]api.Expr{"one kid each": chain(n), "on the left": left, "on the right": right} {
			if Is(x) != want {
				t.Errorf("P6.1: Is at depth %d, %s: not %v", n, name, want)
			}
		}
	}
}

func TestIsByNumberOfNodes(t *testing.T) {
	under := full(12)
	if n := len(places(under)); n != api.MaxNodes-1 {
		t.Fatalf("the tree to start from has %d nodes", n)
	}
	var spots [][]int
	for _, way := range places(under) {
		if len(way) == 3 && len(at(under, way).Kids) == 0 {
			spots = append(spots, way)
		}
	}
	for i, way := range spots {
		exact := with(under, way, node(api.ENot, lit(truth(0))))
		if !Is(exact) {
			t.Errorf("P6.1: %d nodes are too many, the last at %v", api.MaxNodes, way)
		}
		for _, next := range spots[i+1:] {
			if Is(with(exact, next, node(api.ENot, lit(truth(0))))) {
				t.Errorf("P6.1: %d nodes aren't too many, the last at %v and %v", api.MaxNodes+1, way, next)
			}
		}
	}
	for leaves := 1; leaves <= 16; leaves++ {
		if x := full(leaves); Is(x) != (2*leaves-1 <= api.MaxNodes) {
			t.Errorf("P6.1: Is of %d nodes: %v", 2*leaves-1, Is(x))
		}
	}
}

// TestIsCountsAgain: one list that hangs at two places counts twice.
func TestIsCountsAgain(t *testing.T) {
	x := lit(num(1))
	for range 4 {
		x = node(api.EAdd, x, x)
	}
	if Is(x) {
		t.Error("P6.1: 31 nodes in shared memory are taken")
	}
	for range 60 {
		x = node(api.EAdd, x, x)
	}
	if Is(x) {
		t.Error("P6.1: a tree of 64 levels is taken")
	}
}

func TestSameByEachPart(t *testing.T) {
	parts := map[string]func(x *api.Expr){
		"op":           func(x *api.Expr) { x.Op++ },
		"kind":         func(x *api.Expr) { x.Val.Kind++ },
		"number":       func(x *api.Expr) { x.Val.N++ },
		"text":         func(x *api.Expr) { x.Val.S += "x" },
		"alias":        func(x *api.Expr) { x.Alias += "x" },
		"field":        func(x *api.Expr) { x.Field += "x" },
		"a kid more":   func(x *api.Expr) { x.Kids = append(slices.Clone(x.Kids), api.Expr{}) },
		"a kid ahead":  func(x *api.Expr) { x.Kids = append([]api.Expr{{}}, x.Kids...) },
		"alias, field": func(x *api.Expr) { x.Alias, x.Field = x.Alias+"q", "q"+x.Field },
	}
	for _, whole := range []api.Expr{{}, lit(num(1)), field("a", "b"), mixed(), full(12), chain(30)} {
		for _, way := range places(whole) {
			for name, change := range parts {
				other := at(whole, way)
				change(&other)
				if x := with(whole, way, other); Same(whole, x) || Same(x, whole) {
					t.Errorf("P6.1: Same, though %s differs at %v", name, way)
				}
			}
			if n := len(at(whole, way).Kids); n > 0 {
				less := at(whole, way)
				less.Kids = less.Kids[:n-1]
				if x := with(whole, way, less); Same(whole, x) || Same(x, whole) {
					t.Errorf("P6.1: Same, though a kid lacks at %v", way)
				}
			}
		}
	}
}

func TestSameWhereverItLies(t *testing.T) {
	for _, whole := range []api.Expr{{}, lit(num(1)), mixed(), full(12), chain(30)} {
		if !Same(whole, whole) || !Same(whole, copied(whole)) {
			t.Errorf("P6.1: a copy isn't the same: %+v", whole)
		}
	}
	if !Same(api.Expr{Op: api.ELit}, api.Expr{Op: api.ELit, Kids: []api.Expr{}}) {
		t.Error("P6.1: no kids and an empty list of them differ")
	}
	if Same(node(api.ESub, lit(num(1)), lit(num(2))), node(api.ESub, lit(num(2)), lit(num(1)))) {
		t.Error("P6.1: kids the other way round are the same")
	}
	whole := "price and price"
	if !Same(field("a", whole[:5]), field("a", whole[10:])) {
		t.Error("P6.1: a name at another place is another one")
	}
}

func TestDepthAndNodes(t *testing.T) {
	none := api.Expr{Alias: "a", Kids: []api.Expr{chain(3), chain(7)}}
	for _, c := range []struct {
		why   string
		x     api.Expr
		depth int
		count int
	}{
		{"no Op", api.Expr{}, 0, 0},
		{"no Op, but kids", none, 0, 0},
		{"a leaf", lit(num(1)), 1, 1},
		{"an Op that is none", api.Expr{Op: 99}, 1, 1},
		{"a negative Op", api.Expr{Op: -1, Kids: []api.Expr{lit(num(1))}}, 2, 2},
		{"a literal with kids", api.Expr{Op: api.ELit, Kids: []api.Expr{chain(2), chain(3)}}, 4, 6},
		{"too few kids", node(api.EAdd, lit(num(1))), 2, 2},
		{"too many kids", node(api.ENot, chain(1), chain(2), chain(1)), 3, 5},
		{"the first kid is deepest", node(api.EAdd, chain(6), chain(2)), 7, 9},
		{"the last kid is deepest", node(api.EAdd, chain(2), chain(6)), 7, 9},
		{"a kid of no Op", node(api.EAdd, lit(num(1)), api.Expr{}), 2, 2},
		{"a kid of no Op ahead", node(api.EAdd, api.Expr{}, lit(num(1))), 2, 2},
		{"kids of no Op alone", node(api.EAdd, api.Expr{}, none), 1, 1},
		{"no Op further down", node(api.ENot, node(api.EAdd, none, chain(2))), 4, 4},
		{"a mixed one", mixed(), 4, 10},
		{"19 deep", chain(19), 19, 19},
		{"20 deep", chain(20), 20, 20},
		{"21 deep", chain(21), 20, 20},
		{"60 deep", chain(60), 20, 20},
		{"cut off on the left alone", node(api.EAdd, chain(25), chain(3)), 20, 23},
		{"cut off on both sides", node(api.EAdd, chain(25), chain(26)), 20, 39},
		{"a full one", full(1 << 10), 11, 1<<11 - 1},
	} {
		if got := Depth(c.x); got != c.depth {
			t.Errorf("P6.1: %s: Depth is %d, not %d", c.why, got, c.depth)
		}
		if got := len(Nodes(c.x)); got != c.count {
			t.Errorf("P6.1: %s: %d Nodes, not %d", c.why, got, c.count)
		}
	}
}

func TestNodesAreWholeAndInOrder(t *testing.T) {
	for _, x := range []api.Expr{lit(text("hay")), mixed(), full(12), full(21), chain(20), node(api.EOr, mixed(), chain(9))} {
		var want []api.Expr
		for _, way := range places(x) {
			want = append(want, at(x, way))
		}
		if got := Nodes(x); !slices.EqualFunc(got, want, Same) {
			t.Errorf("P6.1: Nodes of %+v: %+v", x, got)
		}
	}
	for i, got := range Nodes(chain(50)) {
		if !Same(got, chain(50-i)) {
			t.Errorf("P6.1: node %d of a deep one isn't whole", i)
		}
	}
	got := Nodes(node(api.EAdd, api.Expr{}, node(api.ENot, api.Expr{Field: "x"})))
	if len(got) != 2 || !Same(got[1], node(api.ENot, api.Expr{Field: "x"})) {
		t.Errorf("P6.1: a node isn't told as it is: %+v", got)
	}
}

// roomy: x with spare room behind each list, which holds a mark.
func roomy(x api.Expr) api.Expr {
	kids := make([]api.Expr, 0, len(x.Kids)+2)
	for _, kid := range x.Kids {
		kids = append(kids, roomy(kid))
	}
	x.Kids = append(kids, field("room", "room"), field("room", "room"))[:len(x.Kids)]
	return x
}

func hasRoom(x api.Expr) bool {
	for _, mark := range x.Kids[len(x.Kids) : len(x.Kids)+2] {
		if !Same(mark, field("room", "room")) {
			return false
		}
	}
	return !slices.ContainsFunc(x.Kids, func(kid api.Expr) bool { return !hasRoom(kid) })
}

// spoil writes over all lists of x, the room behind them too.
func spoil(x api.Expr) {
	for _, kid := range x.Kids {
		spoil(kid)
	}
	for i := range x.Kids[:cap(x.Kids)] {
		x.Kids[:cap(x.Kids)][i] = lit(text("spoilt"))
	}
}

func TestNodesShareNothing(t *testing.T) {
	x := roomy(mixed())
	first, second := Nodes(x), Nodes(x)
	want := Nodes(mixed())
	for i := range first {
		spoil(first[i])
		if !slices.EqualFunc(first[i+1:], want[i+1:], Same) {
			t.Errorf("P6.1: node %d shares memory with one behind it", i)
		}
		first[i] = lit(text("spoilt"))
	}
	for i := range first[:cap(first)] {
		first[:cap(first)][i] = lit(text("spoilt"))
	}
	if !Same(x, mixed()) || !hasRoom(x) {
		t.Errorf("P6.1: what Nodes answers lies in what it was given: %+v", x)
	}
	spoil(x)
	if !slices.EqualFunc(second, want, Same) {
		t.Errorf("P6.1: what Nodes answered lies in other memory: %+v", second)
	}
}

func TestNodesShareNothingBackwards(t *testing.T) {
	got, want := Nodes(mixed()), Nodes(mixed())
	for i := len(got) - 1; i >= 0; i-- {
		spoil(got[i])
		if !slices.EqualFunc(got[:i], want[:i], Same) {
			t.Errorf("P6.1: node %d shares memory with one ahead of it", i)
		}
	}
}

func TestNothingIsChanged(t *testing.T) {
	x, y := roomy(mixed()), roomy(mixed())
	Is(x)
	Same(x, y)
	Depth(x)
	Nodes(x)
	e := api.Elem{Alias: "a", Types: append([]string{"buy"}, "room")[:1], Cond: x}
	p := api.Pattern{Elems: append([]api.Elem{e}, api.Elem{Alias: "room"})[:1]}
	Pattern(p)
	SamePattern(p, p)
	if !Same(x, mixed()) || !hasRoom(x) || !Same(y, mixed()) || !hasRoom(y) {
		t.Error("P6.1: what was handed in is changed")
	}
	if p.Elems[0].Types[:2][1] != "room" || p.Elems[:2][1].Alias != "room" || !sameElem(p.Elems[0], e) {
		t.Error("P6.2: what was handed in is changed")
	}
}

func TestWalkMayBeLeftAndGoneThroughAgain(t *testing.T) {
	x := mixed()
	ways := places(x)
	w := walk(x)
	for n := range len(ways) + 1 {
		count := 0
		for depth, got := range w {
			if count == n {
				break
			}
			if depth != len(ways[count])+1 || !Same(got, at(x, ways[count])) {
				t.Errorf("P6.1: the walk gives %+v at depth %d, not what is at %v", got, depth, ways[count])
			}
			count++
			for range w {
				break
			}
		}
		if count != n {
			t.Errorf("P6.1: left behind %d nodes, not %d", count, n)
		}
	}
}

// TestLargeOnes: calls come back from whatever is within the bounds.
func TestLargeOnes(t *testing.T) {
	long := chain(1 << 16)
	if Is(long) || Depth(long) != deepest || len(Nodes(long)) != deepest || !Same(long, chain(1<<16)) || Same(long, chain(1<<16-1)) {
		t.Error("P6.1: a deep one")
	}
	broad := node(api.EAnd, slices.Repeat([]api.Expr{lit(num(1))}, 1<<18)...)
	if Is(broad) || Depth(broad) != 2 || len(Nodes(broad)) != 1<<18+1 || !Same(broad, broad) {
		t.Error("P6.1: a broad one")
	}
	huge := strings.Repeat("x", 1<<20)
	if Is(field(huge, "a")) || Is(field("a", huge)) || Is(lit(text(huge))) {
		t.Error("P6.1: long texts")
	}
	for _, cond := range []api.Expr{long, broad} {
		if Pattern(api.Pattern{Elems: []api.Elem{{Alias: "a", Types: []string{"buy"}, Cond: cond}}}) {
			t.Error("P6.2: a large condition")
		}
	}
	many := api.Pattern{Elems: make([]api.Elem, 1<<20)}
	if Pattern(many) || !SamePattern(many, many) {
		t.Error("P6.2: many elements")
	}
}

// A draw: numbers that look like chance, the same ones each time.
type draw uint64

func (d *draw) below(n int) int {
	*d = *d*6364136223846793005 + 1442695040888963407
	return int(uint64(*d) >> 33 % uint64(n))
}

func (d *draw) of(depth int) api.Expr {
	if d.below(40) == 0 {
		return api.Expr{}
	}
	if depth <= 1 || d.below(4) == 0 {
		l := []api.Expr{lit(num(int64(d.below(3)))), lit(text("hay")), lit(truth(1)), field("a", "price"), field("b", "item")}
		if d.below(60) == 0 {
			return field("a", "")
		}
		return l[d.below(len(l))]
	}
	op := api.EAdd + d.below(api.ENot-api.EAdd+1)
	n := Kids(op)
	if d.below(60) == 0 {
		n = d.below(4)
	}
	x := api.Expr{Op: op}
	for range n {
		x.Kids = append(x.Kids, d.of(depth-1))
	}
	return x
}

// The words of the chapter, one by one, without a walk.
func plainDepth(x api.Expr) int {
	if x.Op == 0 {
		return 0
	}
	greatest := 0
	for _, kid := range x.Kids {
		greatest = max(greatest, plainDepth(kid))
	}
	return 1 + greatest
}

func plainNodes(x api.Expr) []api.Expr {
	if x.Op == 0 {
		return nil
	}
	out := []api.Expr{x}
	for _, kid := range x.Kids {
		out = append(out, plainNodes(kid)...)
	}
	return out
}

func plainIs(x api.Expr) bool {
	for _, kid := range x.Kids {
		if !plainIs(kid) {
			return false
		}
	}
	return x.Op != 0 && len(x.Kids) == Kids(x.Op) && (x.Op != api.EField || x.Field != "") &&
		plainDepth(x) <= api.MaxDepth && len(plainNodes(x)) <= api.MaxNodes
}

func TestManyConditions(t *testing.T) {
	d, taken := draw(6), 0
	for range 4000 {
		x := d.of(1 + d.below(7))
		if Is(x) != plainIs(x) {
			t.Fatalf("P6.1: Is(%+v) = %v", x, Is(x))
		}
		if Is(x) {
			taken++
		}
		if Depth(x) != plainDepth(x) {
			t.Fatalf("P6.1: Depth(%+v) = %d", x, Depth(x))
		}
		if !slices.EqualFunc(Nodes(x), plainNodes(x), Same) {
			t.Fatalf("P6.1: Nodes(%+v) = %+v", x, Nodes(x))
		}
		if y := d.of(2); Same(x, y) != slices.EqualFunc(plainNodes(x), plainNodes(y), bareSame) {
			t.Fatalf("P6.1: Same(%+v, %+v) = %v", x, y, Same(x, y))
		}
	}
	if taken < 500 || taken > 3500 {
		t.Errorf("%d of 4000 draws are conditions: not a fair test", taken)
	}
}

// bareSame leaves the kids out, but their number and which are none: so a list
// of nodes tells a tree.
func bareSame(a, b api.Expr) bool {
	return a.Op == b.Op && a.Val == b.Val && a.Alias == b.Alias && a.Field == b.Field &&
		slices.EqualFunc(a.Kids, b.Kids, func(a, b api.Expr) bool { return (a.Op == 0) == (b.Op == 0) })
}
