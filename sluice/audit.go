package sluice

import (
	"maps"
	"slices"

	"sluice/api"
	"sluice/wire"
)

// audit tells a row for each name that a replica knows, by rising names.
func audit(sights []api.Sight) [][]int {
	stocks := map[string][]api.Stock{} // by rising replicas
	for _, s := range sights {
		for _, k := range s.Stocks {
			stocks[k.Name] = append(stocks[k.Name], k)
		}
	}
	moving := underWay(sights)
	var rows [][]int
	for _, name := range slices.Sorted(maps.Keys(stocks)) {
		rows = append(rows, row(stocks[name], moving[name]))
	}
	return rows
}

func row(stocks []api.Stock, moving api.Rights) []int {
	newest, held := stocks[0], 0
	var free, got api.Rights
	for _, k := range stocks {
		if k.Recaps > newest.Recaps {
			newest = k
		}
		free = sum(free, k.Rights)
		got = sum(got, k.Got)
		held += k.Held
	}
	return []int{newest.Cap, free.Down, free.Up, got.Down, got.Up, held, moving.Down, moving.Up}
}

// underWay tells by names the rights that are at no replica.
func underWay(sights []api.Sight) map[string]api.Rights {
	moving := map[string]api.Rights{}
	for from, s := range sights {
		for to := range sights {
			for _, m := range slices.Concat(s.Out[to], sent(s.Under[to], sights[to].Next[from])) {
				if m.Kind != api.MsgWant { // it only tells how many are wanted
					moving[m.Name] = sum(moving[m.Name], m.Rights)
				}
			}
		}
	}
	return moving
}

// sent tells the messages in segments that have not arrived: the number next is awaited.
func sent(segments []api.Segment, next int) []api.Msg {
	var list []api.Msg
	for _, s := range segments {
		if s.Seq >= next {
			m, _, _ := wire.Decode(s.Data) // a replica sends nothing that is not read
			list = append(list, m)
		}
	}
	return list
}

func sum(a, b api.Rights) api.Rights {
	return api.Rights{Down: a.Down + b.Down, Up: a.Up + b.Up}
}
