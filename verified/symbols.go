package verified

import (
	"slices"
	"strconv"

	"roundtable/api"
)

// ClassPlace is where a class of views belongs: its process, and its number of rounds.
type ClassPlace struct{ Proc, Round int }

// ClassPlaces returns the places of the classes of a partition that fits a system.
func ClassPlaces(s api.System, classes []int) []ClassPlace {
	var l []ClassPlace
	for view, label := range classes {
		if label == len(l) {
			l = append(l, ClassPlace{s.Table.Views[view].Proc, s.Table.Views[view].Round})
		}
	}
	return l
}

// Symbols numbers the classes of a sender after some rounds for a receiver, which does not distinguish classes with the same number; -1 for all other classes. The partition fits the system.
func Symbols(s api.System, classes []int, round, from, to int) []int {
	places := ClassPlaces(s, classes)
	heard := make([][]string, len(places))
	// One view stands for each class.
	represented := make([]int, len(places))
	for view := len(classes) - 1; view >= 0; view-- {
		represented[classes[view]] = view
	}
	context := map[api.View]int{}
	for u, view := range s.Table.Views {
		if view.Proc != to || view.Round != round+1 || view.Heard[from] < 0 {
			continue
		}
		v := view.Heard[from]
		view.Heard[from] = -1
		if _, ok := context[view]; !ok {
			context[view] = len(context)
		}
		if class := classes[v]; represented[class] == v {
			heard[class] = append(heard[class], strconv.Itoa(context[view])+">"+strconv.Itoa(classes[u]))
		}
	}
	number := map[string]int{}
	symbols := make([]int, len(places))
	for class, place := range places {
		symbols[class] = -1
		if place != (ClassPlace{from, round}) {
			continue
		}
		slices.Sort(heard[class])
		key := ""
		for _, h := range heard[class] {
			key += h + " "
		}
		if _, ok := number[key]; !ok {
			number[key] = len(number)
		}
		symbols[class] = number[key]
	}
	return symbols
}
