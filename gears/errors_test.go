package gears_test

import (
	"reflect"
	"slices"
	"testing"

	"millrind/api"
	"millrind/gears"
)

// R4: nil and empty lists of meshes are the same thing.
func TestEmptyTrains(t *testing.T) {
	for _, x := range []api.Train{{Meshes: nil}, {Meshes: []api.Mesh{}}} {
		want(t, "ValidTrain", gears.ValidTrain(x), false)
		_, e := gears.RatioOf(x)
		wantError(t, "RatioOf", e, api.ErrTrain)
		_, e = gears.Play(x)
		wantError(t, "Play", e, api.ErrTrain)
	}
}

// R7: arguments are not changed, also not those behind the end of a list; results are new memory each time.
func TestArgumentsAreKept(t *testing.T) {
	room := append(example().Meshes, mesh(3, 5, 7), mesh(11, 13, 17))
	before := slices.Clone(room)
	x := api.Train{Meshes: room[:2]}
	for range 2 {
		gears.ValidTrain(x)
		gears.RatioOf(x)
		gears.Stands(x, 9)
		gears.Period(x)
		gears.Play(x)
		gears.Where(x, 32, 4)
		gears.All(x, 32)
		gears.Runs(x, 8, 2)
		gears.Time(x, hopper(), 2)
	}
	want(t, "the train is kept", reflect.DeepEqual(room, before), true)
	list := must[[]int](t, "Stands")(gears.Stands(x, 9))
	list[0] = 77
	_ = append(list[:1], 78, 79)
	wantList(t, "Stands again", must[[]int](t, "Stands")(gears.Stands(x, 9)), []int{9, 1, 1, 3})
	sectors := must[[]int](t, "All")(gears.All(x, 32))
	sectors[3] = 77
	wantList(t, "All again", must[[]int](t, "All")(gears.All(x, 32)), upTo(32))
}
