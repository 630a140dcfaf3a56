package shop_test

import (
	"math/rand/v2"
	"reflect"
	"slices"
	"strconv"
	"testing"

	"spokeshave/api"
	"spokeshave/shop"
)

func machine(name string, change, life, sharpen int) api.Machine {
	return api.Machine{Name: name, Change: change, Life: life, Sharpen: sharpen}
}

func operation(name string, machine, setup, minutes int, needs ...int) api.Operation {
	return api.Operation{Name: name, Machine: machine, Setup: setup, Minutes: minutes, Needs: needs}
}

// example returns the shop of the chapter's examples.
func example() api.Shop {
	return api.Shop{
		Machines: []api.Machine{machine("saw", 10, 60, 15), machine("planer", 0, 1000, 0)},
		Clamps:   4,
		Operations: []api.Operation{
			operation("rip", 0, 1, 40), operation("cross", 0, 2, 30, 0), operation("spread", -1, 0, 10, 1), operation("press", -1, 0, 60, 2), operation("plane", 1, 0, 20, 3),
		},
		Glues: []api.Glue{{Spread: 2, Press: 3, Open: 20, Cure: 30, Clamps: 4}},
	}
}

// exampleStarts returns the greedy schedule of the example.
func exampleStarts() []int { return []int{0, 65, 95, 105, 195} }

// alone returns a shop of one machine that does operations of one minute with these setups.
func alone(setups ...int) api.Shop {
	s := api.Shop{Machines: []api.Machine{machine("m", 7, 100, 9)}}
	for n, setup := range setups {
		s.Operations = append(s.Operations, operation("o"+strconv.Itoa(n), 0, setup, 1))
	}
	return s
}

// presses returns a shop with some clamps and a glue-up for each pair of minutes of pressing and clamps. Spread 2 n and Press 2 n + 1 belong together; the spreading takes one minute.
func presses(clamps int, pairs ...[2]int) api.Shop {
	s := api.Shop{Clamps: clamps}
	for n, pair := range pairs {
		name := strconv.Itoa(n)
		s.Operations = append(s.Operations, operation("s"+name, -1, 0, 1), operation("p"+name, -1, 0, pair[0], 2*n))
		s.Glues = append(s.Glues, api.Glue{Spread: 2 * n, Press: 2*n + 1, Open: 5, Clamps: pair[1]})
	}
	return s
}

// steadily returns numbers that look random, but are the same in each run.
func steadily(row uint64) *rand.Rand { return rand.New(rand.NewPCG(row, 9)) }

// anyShop returns a right shop of at most so many operations, with small numbers.
func anyShop(random *rand.Rand, most int) api.Shop {
	s := api.Shop{Clamps: random.IntN(6)}
	for i := range random.IntN(4) {
		s.Machines = append(s.Machines, machine("m"+strconv.Itoa(i), random.IntN(4), 6+random.IntN(8), random.IntN(4)))
	}
	count := random.IntN(most + 1)
	for n := range count {
		s.Operations = append(s.Operations, operation("o"+strconv.Itoa(n), random.IntN(len(s.Machines)+1)-1, random.IntN(3), 1+random.IntN(6)))
	}
	turn := random.Perm(count) // each operation needs only those ahead of it here
	for i, n := range turn {
		for _, need := range turn[:i] {
			if random.IntN(4) == 0 {
				s.Operations[n].Needs = append(s.Operations[n].Needs, need)
			}
		}
		slices.Sort(s.Operations[n].Needs)
	}
	addGlues(random, &s, turn)
	return s
}

// addGlues makes glue-ups of some pairs of operations that are next to each other in an order.
func addGlues(random *rand.Rand, s *api.Shop, turn []int) {
	for i := 0; i+1 < len(turn); i++ {
		spread, press := &s.Operations[turn[i]], &s.Operations[turn[i+1]]
		if random.IntN(3) == 0 || spread.Machine >= 0 && spread.Machine == press.Machine {
			continue
		}
		press.Needs = []int{turn[i]}
		s.Glues = append(s.Glues, api.Glue{
			Spread: turn[i], Press: turn[i+1], Open: spread.Minutes + random.IntN(4), Cure: random.IntN(5), Clamps: max(random.IntN(s.Clamps+1), random.IntN(s.Clamps+1)),
		})
		i++
	}
}

// anyStarts returns starts for a shop, which may be right or wrong: early ones, or those of the greedy schedule, some of them changed.
func anyStarts(t *testing.T, random *rand.Rand, s api.Shop) []int {
	t.Helper()
	starts := make([]int, len(s.Operations))
	switch random.IntN(4) {
	case 0:
		for n := range starts {
			starts[n] = random.IntN(15)
		}
		return starts
	case 1:
		starts = anyRight(random, s)
	default:
		starts = must(shop.Greedy(s))(t)
	}
	for range random.IntN(3) * min(1, len(starts)) {
		n := random.IntN(len(starts))
		starts[n] = max(0, starts[n]+random.IntN(9)-4)
	}
	return starts
}

// anyRight returns a right schedule. Ready operations are placed in any order, at the least right minute or some minutes later; if a Press finds no place in its time, all of them are placed anew.
func anyRight(random *rand.Rand, s api.Shop) []int {
	for range 10 {
		d := definitionOf(s)
		for ready := d.readyOnes(); len(ready) > 0; ready = d.readyOnes() {
			if !d.placeLater(ready[random.IntN(len(ready))], random.IntN(20)*random.IntN(2)) {
				break
			}
		}
		if len(d.starts) == len(s.Operations) {
			return d.list()
		}
	}
	return definitionOf(s).greedy()
}

// must returns a function that returns a result, if there is no error.
func must[T any](x T, e api.Errno) func(t *testing.T) T {
	return func(t *testing.T) T {
		t.Helper()
		if e != api.OK {
			t.Fatalf("error %d", e)
		}
		return x
	}
}

// given is arguments for every function.
type given struct {
	shop                                   api.Shop
	starts                                 []int
	machine, minute, deadline, operate, by int
}

// flaw is a change of the arguments, with the error that it makes.
type flaw struct {
	want api.Errno
	make func(g *given)
}

// call is a function with all flaws that it looks for, in their order.
type call struct {
	of    func(g given) []any
	flaws [][]flaw
}

func results(l ...any) []any { return l }

// errorOf returns the error of a call; beside an error all other results have to be zero values.
func errorOf(t *testing.T, what string, l []any) api.Errno {
	t.Helper()
	e := l[len(l)-1].(api.Errno)
	for _, x := range l[:len(l)-1] {
		if v := reflect.ValueOf(x); e != api.OK && !v.IsZero() && (v.Kind() != reflect.Slice || v.Len() > 0) {
			t.Errorf("%s: %v beside the error %d", what, x, e)
		}
	}
	return e
}
