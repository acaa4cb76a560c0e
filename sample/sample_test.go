package sample_test

import (
	"math/rand"
	"slices"
	"testing"

	"patchbay/api"
	"patchbay/lower"
	"patchbay/net"
	"patchbay/order"
	"patchbay/sample"
)

func TestMachinesMayBe(t *testing.T) {
	r := rand.New(rand.NewSource(25))
	size := sample.Size{Inputs: [2]int{0, 4}, Latches: [2]int{0, 3}, Gates: [2]int{0, 12}, Outputs: [2]int{1, 5}, Width: [2]int{2, 8}}
	for range 1000 {
		c := sample.Circuit(r.Intn, size, "a", "(", ".")
		if e, name := order.Check(c); e != api.OK || len(c.Inputs) == 0 || len(c.Outputs) == 0 {
			t.Fatal(c, e, name)
		}
		m := sample.Model(r.Intn, size, "a", "#")
		if e := lower.Check(m); e != api.OK || len(m.Inputs) > 4 || len(m.Latches) > 3 || len(m.Graph.Ands) > 12 || len(m.Outputs) > 5 {
			t.Fatal(m, e)
		}
	}
}

func TestTheSameChoicesMakeTheSameMachine(t *testing.T) {
	size := sample.Size{Inputs: [2]int{1, 4}, Latches: [2]int{0, 3}, Gates: [2]int{0, 12}, Outputs: [2]int{0, 5}, Width: [2]int{2, 8}}
	for seed := range int64(20) {
		a := sample.Circuit(rand.New(rand.NewSource(seed)).Intn, size, "a", "b")
		b := sample.Circuit(rand.New(rand.NewSource(seed)).Intn, size, "a", "b")
		m := sample.Model(rand.New(rand.NewSource(seed)).Intn, size, "a", "b")
		n := sample.Model(rand.New(rand.NewSource(seed)).Intn, size, "a", "b")
		if !net.Same(a, b) || !lower.Same(m, n) {
			t.Error(seed)
		}
	}
}

func TestBits(t *testing.T) {
	if l := sample.Bits(6, 4); !slices.Equal(l, []bool{false, true, true, false}) {
		t.Error(l)
	}
	if l := sample.Bits(1, 0); len(l) != 0 {
		t.Error(l)
	}
}
