package books_test

import (
	"bytes"
	"math"
	"math/rand"
	"reflect"
	"slices"
	"testing"

	"millrind/api"
	"millrind/books"
)

const (
	least = -1 << 62
	most  = 1<<62 - 1
)

// P10.1, B13, the chapter's example 1: hashes, byte by byte.
func TestHash(t *testing.T) {
	want(t, "of nothing", books.Hash(nil), 11)
	want(t, "of 0", books.Hash([]byte{0}), 2894)
	want(t, "of 255", books.Hash([]byte{255}), 3149)
	want(t, "of 0, 1", books.Hash([]byte{0, 1}), 263*2894+2)
	long := bytes.Repeat([]byte{7, 0, 255}, 1000)
	h := 11
	for _, x := range long {
		h = (263*h%2147483629 + int(x) + 1) % 2147483629
	}
	want(t, "of many", books.Hash(long), h)
	want(t, "of four zeros", books.Hash(make([]byte, 4)), ((2894*263+1)*263%2147483629*263+263+1)%2147483629)
}

// modelNumber encodes a number by dividing it.
func modelNumber(n int) []byte {
	u := uint64(n) * 2
	if n < 0 {
		u = uint64(-(n+1))*2 + 1
	}
	var b []byte
	for ; u >= 128; u /= 128 {
		b = append(b, byte(128+u%128))
	}
	return append(b, byte(u))
}

// modelCode encodes any value: the fields of package api's types lie in the order of the encoding.
func modelCode(v reflect.Value) []byte {
	var b []byte
	walk(v, func(part reflect.Value) {
		switch {
		case part.Kind() == reflect.Int:
			b = append(b, modelNumber(int(part.Int()))...)
		case part.Kind() == reflect.Slice:
			b = append(b, modelNumber(part.Len())...)
		case part.Kind() == reflect.Bool && part.Bool():
			b = append(b, 2)
		case part.Kind() == reflect.Bool:
			b = append(b, 0)
		}
	})
	return b
}

func encode(t *testing.T, x api.Book) []byte {
	t.Helper()
	return must[[]byte](t, "Encode")(books.Encode(x))
}

// smallBook has an element or two in each list, and different numbers.
func smallBook() api.Book {
	face := func(n int) api.Face { return api.Face{Eye: n, Rings: n + 1, Sectors: n + 2, Kinds: []int{n + 3}} }
	bound := api.Bound{From: -1, FromAt: 2, To: 3, ToAt: 4, Most: -5, Kind: 6, ID: 7}
	c := api.Case{World: []int{8}, Loop: true, Path: []api.Bound{bound}}
	x := api.Book{Rank: []int{1, -1}, Least: []int{2}, Shifts: 3, Work: [][]int{{4}, nil}, Cut: []int{5}, Weights: []int{6}, Lead: []int{7}, Trouble: 60}
	x.Base = api.Base{
		Pair: api.Pair{Bed: face(1), Runner: face(11), Drive: [][]api.Move{{{Out: 1, Side: -1, Cut: true}, {}}, nil}},
		Lift: 21, Top: 22, Grades: []int{23}, Size: span(24, 25),
		Start: [2][]api.Span{{span(26, 27)}, nil}, Aim: [2][]api.Span{nil, {span(28, 29)}},
		Deep: span(30, 31), Wide: 32, Crew: api.Crew{Caps: []int{33}, Reach: [][]int{{34, 35}}},
		Compass: []api.Point{{X: 36, Y: 37}}, Pockets: []api.Pocket{{Arm: api.Point{X: 38, Y: 39}, Most: 40}},
		Tol: 41, Train: api.Train{Meshes: []api.Mesh{{Driver: 42, Driven: 43, Play: 44}}}, Houses: 45,
	}
	x.Sides[0] = api.Side{
		Story: api.Story{
			Start: []api.Span{span(1, 2)}, Heaps: []api.Span{span(3, 4)},
			Steps:    []api.Step{{Kind: 5, Heap: 6, Times: []int{7}, Deep: span(8, 9)}},
			Readings: []api.Reading{{Slice: 10, A: 11, B: 12, Diff: span(13, 14)}},
		},
		Worlds: []api.World{{Hard: []int{15}, Lowest: [][]int{{16}}, Highest: [][]int{{17}, {18}}}},
		Told:   []api.Told{{Cell: 19, Height: span(20, 21), Low: []api.Case{c}, High: []api.Case{{}}, LowIn: 22, HighIn: 23}},
		Loops:  []api.Case{c},
	}
	x.Lines = []api.Line{{Stone: 1, Ring: 2, State: 3, Cell: -4, Task: api.Task{Wide: 5, Need: []api.Span{span(6, 7)}}, Plan: []int{8}, Prices: api.Prices{Low: []int{9}, High: []int{10, 11}}}}
	x.Tree = api.Tree{Kind: 1, Pocket: 2, At: 3, Way: api.Point{X: -4, Y: 5}, Kids: []api.Tree{{Kind: 6}, {Kids: []api.Tree{{At: 7}}}}}
	return x
}

// smallCode is the encoding of the small book, part by part, as the chapter names them.
func smallCode() []byte {
	c := []byte{2, 16, 2, 2, 1, 4, 6, 8, 9, 12, 14}
	return slices.Concat(
		[]byte{2, 4, 6, 2, 8}, []byte{22, 24, 26, 2, 28}, []byte{4, 4, 2, 1, 2, 0, 0, 0, 0}, // Pair
		[]byte{42, 44, 2, 46, 48, 50},              // Lift, Top, Grades, Size
		[]byte{2, 52, 54, 0}, []byte{0, 2, 56, 58}, // Start, Aim
		[]byte{60, 62, 64, 2, 66, 2, 4, 68, 70}, // Deep, Wide, Crew
		[]byte{2, 72, 74, 2, 76, 78, 80, 82},    // Compass, Pockets, Tol
		[]byte{2, 84, 86, 88, 90},               // Train, Houses
		[]byte{4, 2, 1, 2, 4},                   // Rank, Least
		[]byte{2, 2, 4, 2, 6, 8, 2, 10, 12, 2, 14, 16, 18, 2, 20, 22, 24, 26, 28}, // Story
		[]byte{2, 2, 30, 2, 2, 32, 4, 2, 34, 2, 36},                               // Worlds
		[]byte{2, 38, 40, 42, 2}, c, []byte{2, 0, 0, 0, 44, 46},                   // Told
		[]byte{2}, c, // Loops
		[]byte{0, 0, 0, 0, 0, 0, 0},                                                            // the runner's side
		[]byte{2, 2, 4, 6, 7, 10, 2, 12, 14, 2, 16, 2, 18, 4, 20, 22},                          // Lines
		[]byte{6, 4, 2, 8, 0, 2, 10, 2, 12, 2, 14},                                             // Shifts, Work, Cut, Weights, Lead
		[]byte{2, 4, 6, 7, 10, 4, 12, 0, 0, 0, 0, 0, 0, 0, 0, 0, 0, 2, 0, 0, 14, 0, 0, 0, 120}, // Tree, Trouble
	)
}

// P10.1, B14: the encoding, number by number.
func TestEncode(t *testing.T) {
	want(t, "the small book", encode(t, smallBook()), smallCode())
	want(t, "the small book of the model", modelCode(reflect.ValueOf(smallBook())), smallCode())
	want(t, "nothing", encode(t, api.Book{}), make([]byte, 57))
	want(t, "decoded", must[api.Book](t, "Decode")(books.Decode(smallCode())), smallBook())
	want(t, "nothing decoded", must[api.Book](t, "Decode")(books.Decode(make([]byte, 57))), api.Book{})
}

// fill makes a value of any form, with lists that are the shorter the deeper they lie.
func fill(rng *rand.Rand, v reflect.Value, number func() int, size int) {
	switch v.Kind() {
	case reflect.Int:
		v.SetInt(int64(number()))
	case reflect.Bool:
		v.SetBool(rng.Intn(2) == 0)
	case reflect.Slice:
		if n := rng.Intn(size + 1); n > 0 {
			v.Set(reflect.MakeSlice(v.Type(), n, n))
		}
		for i := range v.Len() {
			fill(rng, v.Index(i), number, size*2/3)
		}
	case reflect.Array:
		for i := range v.Len() {
			fill(rng, v.Index(i), number, size)
		}
	case reflect.Struct:
		for i := range v.NumField() {
			fill(rng, v.Field(i), number, size)
		}
	}
}

// wildBook is a book of any form, with numbers of all sizes.
func wildBook(rng *rand.Rand) api.Book {
	var x api.Book
	numbers := []func() int{
		func() int { return rng.Intn(5) - 1 },
		func() int { return (rng.Intn(257) - 128) << rng.Intn(55) },
		func() int { return some(rng, least, most, -64, 63, 64, -65, 1<<61, 8191, 8192) },
	}
	fill(rng, reflect.ValueOf(&x).Elem(), func() int { return numbers[rng.Intn(3)]() }, 3)
	return x
}

// P10.1, P10.2, B14, B15: Encode and Decode undo each other for books of any form; what is torn, longer or otherwise is no book.
func TestAnyCode(t *testing.T) {
	for seed := range 150 {
		x := wildBook(rand.New(rand.NewSource(int64(seed))))
		kept := text(x)
		b := encode(t, x)
		want(t, "Encode", b, modelCode(reflect.ValueOf(x)))
		y := must[api.Book](t, "Decode")(books.Decode(b))
		want(t, "Decode", y, x)
		want(t, "the book", text(x), kept)
		wantApart(t, "both books", x, y)
		wantError[api.Book](t, "torn", api.ErrBytes)(books.Decode(b[:seed*(len(b)-1)/150]))
		wantError[api.Book](t, "torn at the end", api.ErrBytes)(books.Decode(b[:len(b)-1]))
		wantError[api.Book](t, "a byte more", api.ErrBytes)(books.Decode(append(b, 0)))
	}
}

// P10.2, B15: whatever Decode accepts is what Encode makes of it.
func TestOtherBytes(t *testing.T) {
	rng := rand.New(rand.NewSource(15))
	read, broken := 0, 0
	for range 4000 {
		b := encode(t, smallBook())
		for range fromTo(rng, 1, 3) {
			switch at := rng.Intn(len(b)); rng.Intn(3) {
			case 0:
				b[at] ^= 1 << rng.Intn(8)
			case 1:
				b = slices.Delete(b, at, at+1)
			case 2:
				b = slices.Insert(b, at, byte(rng.Intn(256)))
			}
		}
		before := slices.Clone(b)
		x, e := books.Decode(b)
		want(t, "the bytes", b, before)
		if e != api.OK {
			broken++
			wantError[api.Book](t, "Decode", api.ErrBytes)(x, e)
			continue
		}
		read++
		want(t, "Encode", encode(t, x), b)
	}
	if read < 300 || broken < 300 {
		t.Errorf("%d were read, and %d not", read, broken)
	}
}

// P10.1, B14: each number is from -2^62 to 2^62 - 1, wherever it is.
func TestEncodeErrors(t *testing.T) {
	for what, number := range map[string]func(x *api.Book) *int{
		"the first one":  func(x *api.Book) *int { return &x.Base.Pair.Bed.Eye },
		"a move":         func(x *api.Book) *int { return &x.Base.Pair.Drive[0][1].Side },
		"a height":       func(x *api.Book) *int { return &x.Sides[0].Worlds[0].Lowest[0][0] },
		"a bound":        func(x *api.Book) *int { return &x.Sides[0].Told[0].Low[0].Path[0].Most },
		"a line":         func(x *api.Book) *int { return &x.Lines[0].Prices.High[1] },
		"a node":         func(x *api.Book) *int { return &x.Tree.Kids[1].Kids[0].At },
		"a stroke":       func(x *api.Book) *int { return &x.Work[0][0] },
		"the last lead":  func(x *api.Book) *int { return &x.Lead[0] },
		"the shifts":     func(x *api.Book) *int { return &x.Shifts },
		"a grade":        func(x *api.Book) *int { return &x.Base.Grades[0] },
		"the last start": func(x *api.Book) *int { return &x.Base.Start[0][0].Hi },
	} {
		for _, n := range []int{least - 1, most + 1, math.MinInt, math.MaxInt} {
			x := smallBook()
			*number(&x) = n
			wantError[[]byte](t, what, api.ErrLimit)(books.Encode(x))
		}
		for _, n := range []int{least, most} {
			x := smallBook()
			*number(&x) = n
			want(t, what, must[api.Book](t, what)(books.Decode(encode(t, x))), x)
		}
	}
	x := smallBook()
	x.Trouble = most
	want(t, "the greatest trouble", must[api.Book](t, "Decode")(books.Decode(encode(t, x))), x)
	x.Trouble = most + 1
	wantError[[]byte](t, "a trouble too great", api.ErrLimit)(books.Encode(x))
}

// chain is a tree of so many levels, with a node in each.
func chain(levels int) api.Tree {
	tree := api.Tree{Kind: 1}
	for range levels - 1 {
		tree = api.Tree{Kind: 3, Kids: []api.Tree{tree}}
	}
	return tree
}

// P10.1, P10.2, B14, B15: a tree has at most MaxTree nodes and 4096 levels, also where bytes say more.
func TestTreeCodes(t *testing.T) {
	wide := func(nodes int) api.Tree { return api.Tree{Kids: make([]api.Tree, nodes-1)} }
	both := func(nodes int) api.Tree {
		x := chain(4096)
		x.Kids = append(x.Kids, make([]api.Tree, nodes-4096)...)
		return x
	}
	for what, x := range map[string]struct {
		tree  api.Tree
		right bool
	}{
		"4096 levels":            {chain(4096), true},
		"4097 levels":            {chain(4097), false},
		"100000 levels":          {chain(100000), false},
		"200000 nodes":           {wide(200000), true},
		"200001 nodes":           {wide(200001), false},
		"both":                   {both(200000), true},
		"both, and a node more":  {both(200001), false},
		"a level more in a twig": {api.Tree{Kids: []api.Tree{{}, chain(4096), {}}}, false},
	} {
		book := api.Book{Tree: x.tree}
		b := modelTree(x.tree)
		if x.right {
			want(t, what, bytes.Equal(encode(t, book), b), true)
			y := must[api.Book](t, what)(books.Decode(b))
			want(t, what+" again", bytes.Equal(encode(t, y), b), true)
			continue
		}
		wantError[[]byte](t, what, api.ErrLimit)(books.Encode(book))
		wantError[api.Book](t, what, api.ErrBytes)(books.Decode(b))
	}
	wantError[[]byte](t, "a tree that is a part of itself", api.ErrLimit)(books.Encode(api.Book{Tree: roundTree()}))
	kids := make([]api.Tree, 1)
	kids[0].Kids = kids
	wantError[[]byte](t, "a chain without an end", api.ErrLimit)(books.Encode(api.Book{Tree: kids[0]}))
}

// modelTree is the encoding of a book that has nothing but a tree; its last number is Trouble.
func modelTree(tree api.Tree) []byte {
	b := make([]byte, 50, 2000000)
	var add func(x api.Tree)
	add = func(x api.Tree) {
		for _, n := range []int{x.Kind, x.Pocket, x.At, x.Way.X, x.Way.Y, len(x.Kids)} {
			b = append(b, modelNumber(n)...)
		}
		for _, kid := range x.Kids {
			add(kid)
		}
	}
	add(tree)
	return append(b, 0)
}

// replaced is the small code with other bytes in place of some.
func replaced(from, to int, others ...byte) []byte {
	b := smallCode()
	return slices.Concat(b[:from], others, b[to:])
}

// P10.1, P10.2, B15: bytes that no book has: booleans of other numbers, numbers that are too long, and lists that are longer than the bytes.
func TestDecodeErrors(t *testing.T) {
	cut := 14 // where the boolean of the first move is
	want(t, "the boolean", smallCode()[cut-2:cut+1], []byte{2, 1, 2})
	greatest := slices.Concat([]byte{254}, bytes.Repeat([]byte{255}, 7), []byte{127})
	for what, b := range map[string][]byte{
		"no bytes":                 nil,
		"one byte":                 {0},
		"a boolean of 2":           replaced(cut, cut+1, 4),
		"a boolean of -1":          replaced(cut, cut+1, 1),
		"a boolean of 256":         replaced(cut, cut+1, 128, 4),
		"a boolean of two bytes":   replaced(cut, cut+1, 130, 0),
		"an eye of two bytes":      replaced(0, 1, 130, 0),
		"an eye of 2^62":           replaced(0, 1, 128, 128, 128, 128, 128, 128, 128, 128, 128, 1),
		"an eye that does not end": replaced(0, 1, bytes.Repeat([]byte{255}, 400)...),
		"a list below 0":           replaced(3, 4, 1),
		"the least list":           replaced(3, 4, slices.Concat([]byte{255}, greatest[1:])...),
		"the greatest list":        replaced(3, 4, greatest...),
		"a list of all bytes":      replaced(3, 4, modelNumber(len(smallCode())-4)...),
		"a last zero too many":     append(smallCode(), 0),
		"twice the book":           append(smallCode(), smallCode()...),
	} {
		wantError[api.Book](t, what, api.ErrBytes)(books.Decode(b))
	}
	for i := range smallCode() {
		wantError[api.Book](t, "torn", api.ErrBytes)(books.Decode(smallCode()[:i]))
	}
	x := smallBook()
	x.Base.Pair.Bed.Eye = most
	want(t, "the greatest eye", must[api.Book](t, "Decode")(books.Decode(replaced(0, 1, greatest...))), x)
	x = smallBook()
	x.Base.Pair.Drive[0][0].Cut = false
	want(t, "a boolean of 0", must[api.Book](t, "Decode")(books.Decode(replaced(cut, cut+1, 0))), x)
}
