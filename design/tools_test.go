package design_test

import (
	"math/rand/v2"
	"reflect"
	"slices"
	"strconv"
	"strings"
	"testing"

	"spokeshave/api"
	"spokeshave/design"
	"spokeshave/joint"
	"spokeshave/solid"
)

// shelfText is the shelf of the chapter.
const shelfText = `design shelf
param w = 80000
param t = w / 40
part left oak 2 at 0, 0, 0 size t, 20000, 30000
part right oak 2 at w - t, 0, 0 size t, 20000, 30000
part board oak 0 at t, 0, 10000 size w - 2 * t, 20000, t
fill 0, 0, 10000 size w, 20000, t
`

// rackText has joints with and without loose members, a joint of three, all kinds of spaces, groups, and a parameter that nothing uses.
const rackText = `design rack
param u = 10
param v = 2 * u
param spare = 7
param l = v + u * 2
part a oak 0 at 0, 0, 0 size 30, 40, l - u
part b ash 0 at 30, 0, 0 size 60, v * 2, l - u
part c ash 1 at 60, 0, l - u size v, 40, 30
part d min 2 at 100, 0, 0 size u, u, u
tie dowels b a turn 0 at 0, 0, 0 size 60, v * 2, 30 with 30, 4, 6, u, 12, 2, 10, 15, 30, 14
tie lap b c turn 1 at 60, 40, l - u + 20 size v, 40, 40 with 20
tie spline b d turn 0 at 100, 0, 0 size 40, 40, 30 with 40, 5, 6, 10, 20
tie three a d c turn 24 at 0, 100, 0 size 40, 40, 30 with 12, 15, 25, 14, 26
fill 2, 2, 2 size 5, 5, 5
clear 200, 0, 0 size u, u, u
group ab a b
group none
`

// parsed returns the design of a text.
func parsed(t *testing.T, text string) api.Design {
	t.Helper()
	d, line, e := design.Parse(text)
	if e != api.OK {
		t.Fatalf("line %d: %d", line, e)
	}
	return d
}

// steadily returns numbers that look random, but are the same in each run.
func steadily(row uint64) *rand.Rand {
	return rand.New(rand.NewPCG(row, 5))
}

// number returns a number from low to high.
func number(random *rand.Rand, low, high int) int {
	return low + random.IntN(high-low+1)
}

// anyOf returns an element of a list.
func anyOf[T any](random *rand.Rand, l []T) T {
	return l[random.IntN(len(l))]
}

// known is a design with what its expressions are worth.
type known struct {
	design   api.Design
	values   []int
	blanks   []api.Box
	joints   []api.Joint
	settings []api.Setting
	boxes    []api.Box
	spaces   []api.Box
}

// anyDesign returns a design that resolves, all of it in a small room.
func anyDesign(t *testing.T, random *rand.Rand, parts, ties, spaces int) *known {
	t.Helper()
	k := &known{design: api.Design{Name: "any"}}
	for i := range number(random, 0, 5) {
		n := number(random, -9, 30)
		// An expression may use later parameters; this one uses earlier ones, and the order is changed below.
		text := k.textOf(random, n)
		k.design.Params = append(k.design.Params, api.Param{Name: "p" + strconv.Itoa(i), Text: text})
		k.values = append(k.values, n)
	}
	order := random.Perm(len(k.values))
	params, values := slices.Clone(k.design.Params), slices.Clone(k.values)
	for i, from := range order {
		k.design.Params[i], k.values[i] = params[from], values[from]
	}
	for i := range parts {
		box := k.anyBox(random)
		at, size := k.place(random, box)
		name := anyOf(random, []string{"part", "a", "Z-", "j", "j1-x", "j-2", "min"}) + strconv.Itoa(i)
		k.design.Parts = append(k.design.Parts, api.Row{Name: name, Species: anyOf(random, []string{"oak", "ash", "max"}), Grain: random.IntN(3), At: at, Size: size})
		k.blanks = append(k.blanks, box)
	}
	for range ties {
		k.addTie(t, random)
	}
	for range spaces {
		box := k.anyBox(random)
		at, size := k.place(random, box)
		k.design.Spaces = append(k.design.Spaces, api.Space{Kind: random.IntN(2), At: at, Size: size})
		k.spaces = append(k.spaces, box)
	}
	if e := design.Resolve(k.design); e != api.OK {
		t.Fatalf("%v: %d", k.design, e)
	}
	return k
}

// textOf returns a plain text that is worth a number.
func (k *known) textOf(random *rand.Rand, n int) string {
	if len(k.values) > 0 {
		i := random.IntN(len(k.values))
		name, value := k.design.Params[i].Name, k.values[i]
		less, more := name+" - "+strconv.Itoa(value-n), name+" + "+strconv.Itoa(n-value)
		switch choice := random.IntN(4); {
		case choice == 0 && value >= n:
			return less
		case choice == 0:
			return more
		case choice == 1 && n != 0 && value%n == 0 && value != 0:
			return name + " / " + strconv.Itoa(value/n)
		case choice == 2:
			return "max(" + strconv.Itoa(n) + ", min(" + strconv.Itoa(n) + ", " + name + "))"
		}
	}
	return strconv.Itoa(n)
}

func (k *known) anyBox(random *rand.Rand) api.Box {
	x, y, z := number(random, -20, 20), number(random, -20, 20), number(random, -20, 20)
	return api.Box{X1: x, Y1: y, Z1: z, X2: x + number(random, 1, 30), Y2: y + number(random, 1, 30), Z2: z + number(random, 1, 30)}
}

func (k *known) place(random *rand.Rand, b api.Box) (at, size [3]string) {
	low, high := [3]int{b.X1, b.Y1, b.Z1}, [3]int{b.X2, b.Y2, b.Z2}
	for axis := range low {
		at[axis] = k.textOf(random, low[axis])
		size[axis] = k.textOf(random, high[axis]-low[axis])
	}
	return at, size
}

// addTie adds a tie, unless it clashes.
func (k *known) addTie(t *testing.T, random *rand.Rand) {
	t.Helper()
	kind := random.IntN(11)
	j, e := joint.Standard(kind, [3]int{number(random, 24, 48), number(random, 24, 48), number(random, 12, 24)})
	members, _ := joint.Members(kind)
	if e != api.OK || members > len(k.design.Parts) {
		return
	}
	word, _ := joint.KindName(kind)
	at := api.Setting{At: [3]int{number(random, -20, 20), number(random, -20, 20), number(random, -20, 20)}, Turn: random.IntN(48)}
	tie := api.Tie{Kind: word, Turn: at.Turn}
	for _, i := range random.Perm(len(k.design.Parts))[:members] {
		tie.Parts = append(tie.Parts, k.design.Parts[i].Name)
	}
	for axis := range 3 {
		tie.At[axis], tie.Size[axis] = k.textOf(random, at.At[axis]), k.textOf(random, j.Size[axis])
	}
	for _, n := range j.Numbers {
		tie.Numbers = append(tie.Numbers, k.textOf(random, n))
	}
	box, e := joint.Boxed(j, at)
	if e != api.OK {
		t.Fatalf("%v at %v: %d", j, at, e)
	}
	with := k.design
	with.Ties = append(slices.Clone(with.Ties), tie)
	switch e := design.Resolve(with); e {
	case api.OK:
		k.design, k.joints, k.settings, k.boxes = with, append(k.joints, j), append(k.settings, at), append(k.boxes, box)
	case api.ErrClash:
	default:
		t.Fatalf("%v: %d", with, e)
	}
}

// boxSolid returns the solid of a box.
func boxSolid(t *testing.T, b api.Box) api.Solid {
	t.Helper()
	s, e := solid.OfBox(b)
	if e != api.OK {
		t.Fatalf("box %v: %d", b, e)
	}
	return s
}

// changed returns a copy of a design, changed.
func changed(d api.Design, changes ...func(d *api.Design)) api.Design {
	d = filled(reflect.ValueOf(d)).Interface().(api.Design)
	for _, change := range changes {
		change(&d)
	}
	return d
}

// many returns so many elements, made of their numbers.
func many[T any](count int, make func(i int) T) []T {
	var l []T
	for i := range count {
		l = append(l, make(i))
	}
	return l
}

// three returns the same text three times.
func three(text string) [3]string {
	return [3]string{text, text, text}
}

// repeated returns a text of so many ones with signs between them.
func repeated(sign string, count int) string {
	return strings.Repeat("1"+sign, count-1) + "1"
}

// alike reports whether two values are equal, a nil list being an empty one.
func alike(a, b any) bool {
	return reflect.DeepEqual(filled(reflect.ValueOf(a)).Interface(), filled(reflect.ValueOf(b)).Interface())
}

// filled returns a deep copy without nil lists.
func filled(v reflect.Value) reflect.Value {
	to := reflect.New(v.Type()).Elem()
	switch v.Kind() {
	case reflect.Slice:
		to.Set(reflect.MakeSlice(v.Type(), v.Len(), v.Len()))
		for i := range v.Len() {
			to.Index(i).Set(filled(v.Index(i)))
		}
	case reflect.Array:
		for i := range v.Len() {
			to.Index(i).Set(filled(v.Index(i)))
		}
	case reflect.Struct:
		for i := range v.NumField() {
			to.Field(i).Set(filled(v.Field(i)))
		}
	default:
		to.Set(v)
	}
	return to
}
